import PyProof.Rows.All
import Wide.All
import OpenK.AllK
import Wide.FinOn
import PySem.Challenge.RW_caskyears_k01_fractions_in_lowest_terms
import HandS.ForMost
import HandS.ForExc
import HandS.ExcInit
import HandS.ExcField
import HandS.Gcd
import HandS.Wide
import HandS.IsInst
import HandS.Style
import HandS.CallSlots
import HandS.ExcIs
import HandS.ExcValue
import HandS.EndBits
import PyProof.Rows.RegStrFacts
import PyProof.P3Eq
set_option Elab.async false
set_option linter.all false
set_option maxRecDepth 100000
/-! # A store of lists beside the values: programs as Lean functions, and the judgement that a piece of the text does what its function says -/
namespace MI
open PySem PySem.Spec PyProof.Rows L2

/-- values: a list, a dict, an exception is a place in the store -/
inductive D where
  | non | bl (b : Bool) | int (i : Int) | str (x : Str) | tup (xs : List D) | ref (i : Nat) | fro (xs : List D)
inductive Cell where
  | lst (xs : List D) | dct (kvs : List (Key × D)) | exc (c : Str) (v : D)
abbrev Store := List Cell
abbrev Sl := List (Option D)
inductive Res (α : Type) where
  | ok (a : α) (S : Store) | exc (c : Str) (v : D) (S : Store) | no
/-- a computation at slots and a store -/
abbrev M (α : Type) := Sl → Store → Res α

/-- a list that is locked, or of the written part -/
def SqF (K : PySem.W.Frag) (H : Hp) (a : Addr) (xs : List V) : Prop :=
  (∃ o, H a = some (.frz o (.lst xs))) ∨ ∃ (o : Obj) (its : Array Value) (n : Nat), K.lookup a = some o ∧ o.cls = .type "list" ∧ o.dict = none ∧ o.data = .seq its n ∧ its.size ≤ sizeLine ∧ Vals xs its.toList
theorem SqF.sql {K : PySem.W.Frag} {H : Hp} {a : Addr} {xs : List V} (h : SqF K H a xs) : SqL K H a xs := h.imp (fun h => .inr h) fun h => h
mutual
inductive RD (K : PySem.W.Frag) (ι : List Addr) (H : Hp) : D → V → Prop
  | non : RD K ι H .non .non
  | bl (b : Bool) : RD K ι H (.bl b) (.bl b)
  | int (i : Int) : RD K ι H (.int i) (.int i)
  | str (x : Str) : RD K ι H (.str x) (.str x)
  | tup {xs : List D} {vs : List V} {a : Addr} (h : SqT K H a vs) (r : RDs K ι H xs vs) : RD K ι H (.tup xs) (.ref a)
  | ref {i : Nat} {a : Addr} (h : ι[i]? = some a) : RD K ι H (.ref i) (.ref a)
  | fro {xs : List D} {vs : List V} {a : Addr} (h : SqF K H a vs) (r : RDs K ι H xs vs) : RD K ι H (.fro xs) (.ref a)
inductive RDs (K : PySem.W.Frag) (ι : List Addr) (H : Hp) : List D → List V → Prop
  | nil : RDs K ι H [] []
  | cons {d : D} {v : V} {ds : List D} {vs : List V} (h : RD K ι H d v) (r : RDs K ι H ds vs) : RDs K ι H (d :: ds) (v :: vs)
end

/-- what lasts: the places, all that is no place, the tuples, what is locked; new places were free -/
structure Ext (ι : List Addr) (H : Hp) (ι' : List Addr) (H' : Hp) : Prop where
  pre : ∃ t, ι' = ι ++ t
  new : ∀ a, a ∈ ι' → a ∈ ι ∨ H a = none
  keep : ∀ a o, H a = some o → a ∉ ι → H' a = some o
  tups : ∀ a vs, H a = some (.tup vs) → H' a = some (.tup vs)
  frzs : ∀ a o u, H a = some (.frz o u) → H' a = some (.frz o u)
theorem Ext.refl (ι : List Addr) (H : Hp) : Ext ι H ι H := ⟨⟨[], by simp⟩, fun _ h => .inl h, fun _ _ h _ => h, fun _ _ h => h, fun _ _ _ h => h⟩
theorem Ext.trans {ι ι1 ι2 : List Addr} {H H1 H2 : Hp} (a : Ext ι H ι1 H1) (b : Ext ι1 H1 ι2 H2) : Ext ι H ι2 H2 := by
  obtain ⟨⟨t, e⟩, a0, ak, a1, a2⟩ := a
  obtain ⟨⟨u, e'⟩, b0, bk, b1, b2⟩ := b
  refine ⟨⟨t ++ u, by rw [e', e, List.append_assoc]⟩, fun x hx => ?_, fun x o h hn => ?_, fun x vs h => b1 x vs (a1 x vs h), fun x o u h => b2 x o u (a2 x o u h)⟩
  · rcases b0 x hx with h | h
    · exact a0 x h
    · by_cases hi : x ∈ ι
      · exact .inl hi
      · refine .inr ?_
        cases q : H x with
        | none => rfl
        | some o => rw [ak x o q hi] at h; cases h
  · refine bk x o (ak x o h hn) fun hx => ?_
    rcases a0 x hx with z | z
    · exact hn z
    · rw [h] at z; cases z
theorem Ext.at {ι ι1 : List Addr} {H H1 : Hp} (a : Ext ι H ι1 H1) {i : Nat} {x : Addr} (h : ι[i]? = some x) : ι1[i]? = some x := by
  obtain ⟨t, e⟩ := a.pre
  have : i < ι.length := (List.getElem?_eq_some_iff.mp h).1
  rw [e, List.getElem?_append_left this]; exact h
theorem Ext.sqT {K : PySem.W.Frag} {ι ι1 : List Addr} {H H1 : Hp} (x : Ext ι H ι1 H1) {a : Addr} {vs : List V} (h : SqT K H a vs) : SqT K H1 a vs := by
  rcases h with (h | ⟨o, h⟩) | h
  · exact .inl (.inl (x.tups _ _ h))
  · exact .inl (.inr ⟨o, x.frzs _ _ _ h⟩)
  · exact .inr h
/-- a new object -/
theorem Ext.new1 {ι : List Addr} {H : Hp} {p : Addr} {o : HO} (h : H p = none) : Ext ι H (ι ++ [p]) (upd H p o) :=
  ⟨⟨_, rfl⟩, fun a ha => (List.mem_append.mp ha).imp (fun z => z) fun z => by
      have e : a = p := by simpa using z
      rw [e]; exact h,
    fun a o e _ => by rw [upd_ne (ne_of_none e h)]; exact e, fun a vs e => by rw [upd_ne (ne_of_none e h)]; exact e, fun a o u e => by rw [upd_ne (ne_of_none e h)]; exact e⟩
theorem Ext.new0 {ι : List Addr} {H : Hp} {p : Addr} {o : HO} (h : H p = none) : Ext ι H ι (upd H p o) :=
  ⟨⟨[], by simp⟩, fun a ha => .inl ha, fun a o e _ => by rw [upd_ne (ne_of_none e h)]; exact e, fun a vs e => by rw [upd_ne (ne_of_none e h)]; exact e, fun a o u e => by rw [upd_ne (ne_of_none e h)]; exact e⟩

/-- what values lean on -/
structure Mo (ι : List Addr) (H : Hp) (ι' : List Addr) (H' : Hp) : Prop where
  pre : ∃ t, ι' = ι ++ t
  tups : ∀ a vs, H a = some (.tup vs) → H' a = some (.tup vs)
  frzs : ∀ a o u, H a = some (.frz o u) → H' a = some (.frz o u)
theorem Ext.mo {ι ι1 : List Addr} {H H1 : Hp} (x : Ext ι H ι1 H1) : Mo ι H ι1 H1 := ⟨x.pre, x.tups, x.frzs⟩
theorem Mo.at {ι ι1 : List Addr} {H H1 : Hp} (a : Mo ι H ι1 H1) {i : Nat} {x : Addr} (h : ι[i]? = some x) : ι1[i]? = some x := by
  obtain ⟨t, e⟩ := a.pre
  have : i < ι.length := (List.getElem?_eq_some_iff.mp h).1
  rw [e, List.getElem?_append_left this]; exact h
theorem Mo.sqT {K : PySem.W.Frag} {ι ι1 : List Addr} {H H1 : Hp} (x : Mo ι H ι1 H1) {a : Addr} {vs : List V} (h : SqT K H a vs) : SqT K H1 a vs := by
  rcases h with (h | ⟨o, h⟩) | h
  · exact .inl (.inl (x.tups _ _ h))
  · exact .inl (.inr ⟨o, x.frzs _ _ _ h⟩)
  · exact .inr h
theorem Mo.sqF {K : PySem.W.Frag} {ι ι1 : List Addr} {H H1 : Hp} (x : Mo ι H ι1 H1) {a : Addr} {vs : List V} (h : SqF K H a vs) : SqF K H1 a vs := h.imp (fun ⟨o, h⟩ => ⟨o, x.frzs _ _ _ h⟩) fun h => h
mutual
theorem RD.monoM {K : PySem.W.Frag} {ι ι1 : List Addr} {H H1 : Hp} (x : Mo ι H ι1 H1) : ∀ {d : D} {v : V}, RD K ι H d v → RD K ι1 H1 d v
  | _, _, .non => .non
  | _, _, .bl b => .bl b
  | _, _, .int i => .int i
  | _, _, .str z => .str z
  | _, _, .tup h r => .tup (x.sqT h) (RDs.monoM x r)
  | _, _, .ref h => .ref (x.at h)
  | _, _, .fro h r => .fro (x.sqF h) (RDs.monoM x r)
theorem RDs.monoM {K : PySem.W.Frag} {ι ι1 : List Addr} {H H1 : Hp} (x : Mo ι H ι1 H1) : ∀ {ds : List D} {vs : List V}, RDs K ι H ds vs → RDs K ι1 H1 ds vs
  | _, _, .nil => .nil
  | _, _, .cons h r => .cons (RD.monoM x h) (RDs.monoM x r)
end
theorem RD.mono {K : PySem.W.Frag} {ι ι1 : List Addr} {H H1 : Hp} (x : Ext ι H ι1 H1) {d : D} {v : V} (r : RD K ι H d v) : RD K ι1 H1 d v := RD.monoM x.mo r
theorem RDs.mono {K : PySem.W.Frag} {ι ι1 : List Addr} {H H1 : Hp} (x : Ext ι H ι1 H1) {d : List D} {v : List V} (r : RDs K ι H d v) : RDs K ι1 H1 d v := RDs.monoM x.mo r
theorem RDs.length {K : PySem.W.Frag} {ι : List Addr} {H : Hp} : ∀ {ds : List D} {vs : List V}, RDs K ι H ds vs → ds.length = vs.length
  | _, _, .nil => rfl
  | _, _, .cons _ r => by rw [List.length_cons, List.length_cons, RDs.length r]
theorem RDs.get {K : PySem.W.Frag} {ι : List Addr} {H : Hp} : ∀ {ds : List D} {vs : List V} {i : Nat} {d : D}, RDs K ι H ds vs → ds[i]? = some d → ∃ v, vs[i]? = some v ∧ RD K ι H d v
  | _, _, _, _, .nil, h => by simp at h
  | _, _, 0, d, .cons h r, e => by simp at e; subst e; exact ⟨_, rfl, h⟩
  | _, _, i + 1, d, .cons h r, e => by
    obtain ⟨v, a, b⟩ := RDs.get (i := i) (d := d) r (by simpa using e)
    exact ⟨v, by simpa using a, b⟩
theorem RDs.app {K : PySem.W.Frag} {ι : List Addr} {H : Hp} : ∀ {ds es : List D} {vs us : List V}, RDs K ι H ds vs → RDs K ι H es us → RDs K ι H (ds ++ es) (vs ++ us)
  | _, _, _, _, .nil, s => s
  | _, _, _, _, .cons h r, s => .cons h (RDs.app r s)
theorem RDs.set {K : PySem.W.Frag} {ι : List Addr} {H : Hp} {d : D} {v : V} (q : RD K ι H d v) : ∀ {ds : List D} {vs : List V} (i : Nat), RDs K ι H ds vs → RDs K ι H (ds.set i d) (vs.set i v)
  | _, _, _, .nil => .nil
  | _, _, 0, .cons _ r => .cons q r
  | _, _, i + 1, .cons h r => .cons h (RDs.set q i r)
theorem RDs.take {K : PySem.W.Frag} {ι : List Addr} {H : Hp} : ∀ {ds : List D} {vs : List V} (n : Nat), RDs K ι H ds vs → RDs K ι H (ds.take n) (vs.take n)
  | _, _, 0, _ => .nil
  | _, _, _ + 1, .nil => .nil
  | _, _, n + 1, .cons h r => .cons h (RDs.take n r)
theorem RDs.drop {K : PySem.W.Frag} {ι : List Addr} {H : Hp} : ∀ {ds : List D} {vs : List V} (n : Nat), RDs K ι H ds vs → RDs K ι H (ds.drop n) (vs.drop n)
  | _, _, 0, r => r
  | _, _, _ + 1, .nil => .nil
  | _, _, n + 1, .cons _ r => RDs.drop n r
theorem RDs.snoc {K : PySem.W.Frag} {ι : List Addr} {H : Hp} {ds : List D} {vs : List V} {d : D} {v : V} (r : RDs K ι H ds vs) (h : RD K ι H d v) : RDs K ι H (ds ++ [d]) (vs ++ [v]) := r.app (.cons h .nil)

def RKV (K : PySem.W.Frag) (ι : List Addr) (H : Hp) : List (Key × D) → List (Key × V) → Prop := Paired fun p q => p.1 = q.1 ∧ RD K ι H p.2 q.2
theorem RKV.monoM {K : PySem.W.Frag} {ι ι1 : List Addr} {H H1 : Hp} (x : Mo ι H ι1 H1) {l : List (Key × D)} {l' : List (Key × V)} (r : RKV K ι H l l') : RKV K ι1 H1 l l' := Paired.mapP r fun _ _ h => ⟨h.1, h.2.monoM x⟩
theorem RKV.mono {K : PySem.W.Frag} {ι ι1 : List Addr} {H H1 : Hp} (x : Ext ι H ι1 H1) {l : List (Key × D)} {l' : List (Key × V)} (r : RKV K ι H l l') : RKV K ι1 H1 l l' := RKV.monoM x.mo r

/-- the exception object at a, its class at C, its dict at dd -/
def EXO (C dd a : Addr) : HO := .ext fun h => ∃ (oe : Obj) (vs : Array Value), h.get? a = some oe ∧ oe.cls = .ref C ∧ oe.dict = some dd ∧ oe.data = .fields vs
def CellOk (K : PySem.W.Frag) (mg : Str → Option Value) (ι : List Addr) (H : Hp) (a : Addr) : Cell → Prop
  | .lst xs => ∃ vs, H a = some (.lst vs) ∧ RDs K ι H xs vs
  | .dct kvs => ∃ ws, H a = some (.dK ws) ∧ RKV K ι H kvs ws
  | .exc c v => ∃ C dd fs u, mg c = some (.ref C) ∧ H a = some (EXO C dd a) ∧ H dd = some (.xd fs) ∧ fs.lookup ("value" : Str) = some u ∧ RD K ι H v u
/-- the store stands in the heap at the places -/
structure RS (K : PySem.W.Frag) (mg : Str → Option Value) (ι : List Addr) (S : Store) (H : Hp) : Prop where
  len : S.length = ι.length
  nd : ι.Nodup
  at_ : ∀ (i : Nat) (c : Cell) (a : Addr), S[i]? = some c → ι[i]? = some a → CellOk K mg ι H a c
theorem RS.get {K : PySem.W.Frag} {mg : Str → Option Value} {ι : List Addr} {S : Store} {H : Hp} (r : RS K mg ι S H) {i : Nat} {c : Cell} (h : S[i]? = some c) : ∃ a, ι[i]? = some a ∧ CellOk K mg ι H a c := by
  have hi : i < S.length := (List.getElem?_eq_some_iff.mp h).1
  have : i < ι.length := by rw [← r.len]; exact hi
  exact ⟨ι[i], List.getElem?_eq_getElem this, r.at_ i c _ h (List.getElem?_eq_getElem this)⟩
theorem RS.get' {K : PySem.W.Frag} {mg : Str → Option Value} {ι : List Addr} {S : Store} {H : Hp} (r : RS K mg ι S H) {i : Nat} {c : Cell} {a : Addr} (h : S[i]? = some c) (ha : ι[i]? = some a) : CellOk K mg ι H a c := r.at_ i c a h ha
/-- the objects of cells are written ones -/
theorem CellOk.kind {K : PySem.W.Frag} {mg : Str → Option Value} {ι : List Addr} {H : Hp} {a : Addr} {c : Cell} (h : CellOk K mg ι H a c) : ∃ o, H a = some o ∧ ((∃ x, o = .lst x) ∨ (∃ x, o = .dK x) ∨ ∃ x, o = .ext x) := by
  cases c with
  | lst xs => obtain ⟨vs, e, _⟩ := h; exact ⟨_, e, .inl ⟨_, rfl⟩⟩
  | dct kvs => obtain ⟨vs, e, _⟩ := h; exact ⟨_, e, .inr (.inl ⟨_, rfl⟩)⟩
  | exc c v => obtain ⟨_, _, _, _, _, e, _⟩ := h; exact ⟨_, e, .inr (.inr ⟨_, rfl⟩)⟩
/-- what a cell leans on: its own object, what lasts, and an exception's dict -/
theorem CellOk.move {K : PySem.W.Frag} {mg : Str → Option Value} {ι ι1 : List Addr} {H H1 : Hp} {a : Addr} {c : Cell} (x : Mo ι H ι1 H1) (ha : ∀ o, H a = some o → H1 a = some o) (hd : ∀ b fs, H b = some (.xd fs) → H1 b = some (.xd fs)) (h : CellOk K mg ι H a c) : CellOk K mg ι1 H1 a c := by
  cases c with
  | lst xs => obtain ⟨vs, e, r⟩ := h; exact ⟨vs, ha _ e, r.monoM x⟩
  | dct kvs => obtain ⟨ws, e, r⟩ := h; exact ⟨ws, ha _ e, RKV.monoM x r⟩
  | exc c v => obtain ⟨C, dd, fs, u, e1, e2, e3, e4, r⟩ := h; exact ⟨C, dd, fs, u, e1, ha _ e2, hd _ _ e3, e4, r.monoM x⟩
/-- a new object beside -/
theorem RS.new0 {K : PySem.W.Frag} {mg : Str → Option Value} {ι : List Addr} {S : Store} {H : Hp} {p : Addr} {o : HO} (r : RS K mg ι S H) (h : H p = none) : RS K mg ι S (upd H p o) :=
  ⟨r.len, r.nd, fun i c a e1 e2 => (r.at_ i c a e1 e2).move (Ext.new0 h).mo (fun o e => by rw [upd_ne (ne_of_none e h)]; exact e) fun b fs e => by rw [upd_ne (ne_of_none e h)]; exact e⟩
theorem RS.fresh {K : PySem.W.Frag} {mg : Str → Option Value} {ι : List Addr} {S : Store} {H : Hp} {p : Addr} (r : RS K mg ι S H) (h : H p = none) : p ∉ ι := fun hp => by
  obtain ⟨i, hi, e⟩ := List.getElem_of_mem hp
  have hS : i < S.length := by rw [r.len]; exact hi
  obtain ⟨o, e1, _⟩ := (r.at_ i S[i] p (List.getElem?_eq_getElem hS) (by rw [← e]; exact List.getElem?_eq_getElem hi)).kind
  rw [h] at e1; cases e1
/-- a new cell -/
theorem RS.push {K : PySem.W.Frag} {mg : Str → Option Value} {ι : List Addr} {S : Store} {H : Hp} {p : Addr} {o : HO} {c : Cell} (r : RS K mg ι S H) (h : H p = none) (hc : CellOk K mg (ι ++ [p]) (upd H p o) p c) : RS K mg (ι ++ [p]) (S ++ [c]) (upd H p o) := by
  have hn := r.fresh h
  refine ⟨by simp [r.len], ?_, fun i c' a e1 e2 => ?_⟩
  · rw [List.nodup_append]
    refine ⟨r.nd, by simp, fun a ha b hb => ?_⟩
    have : b = p := by simpa using hb
    subst this
    exact fun e => hn (e ▸ ha)
  · by_cases hi : i < S.length
    · rw [List.getElem?_append_left hi] at e1
      rw [List.getElem?_append_left (by rw [← r.len]; exact hi)] at e2
      exact (r.at_ i c' a e1 e2).move (Ext.new1 h).mo (fun o e => by rw [upd_ne (ne_of_none e h)]; exact e) fun b fs e => by rw [upd_ne (ne_of_none e h)]; exact e
    · have e : i = S.length := by
        have h1 := (List.getElem?_eq_some_iff.mp e1).1
        rw [List.length_append, List.length_singleton] at h1
        omega
      subst e
      rw [List.getElem?_append_right (Nat.le_refl _), Nat.sub_self] at e1
      rw [List.getElem?_append_right (by rw [r.len]; exact Nat.le_refl _), r.len, Nat.sub_self] at e2
      simp at e1 e2
      subst e1; subst e2
      exact hc
theorem Ext.put {ι : List Addr} {H : Hp} {i : Nat} {p : Addr} {o o' : HO} (hp : ι[i]? = some p) (ho : H p = some o') (hk : (∀ x, o' ≠ .tup x) ∧ (∀ x y, o' ≠ .frz x y) ∧ ∀ x, o' ≠ .xd x) : Ext ι H ι (upd H p o) :=
  ⟨⟨[], by simp⟩, fun a ha => .inl ha, fun a o1 e hn => by rw [upd_ne (fun z => hn (by rw [z]; exact List.mem_of_getElem? hp))]; exact e, fun a vs e => by rw [upd_ne (fun z => hk.1 vs (by rw [z, ho] at e; exact Option.some.inj e))]; exact e,
    fun a o1 u e => by rw [upd_ne (fun z => hk.2.1 o1 u (by rw [z, ho] at e; exact Option.some.inj e))]; exact e⟩
/-- a cell is written -/
theorem RS.put {K : PySem.W.Frag} {mg : Str → Option Value} {ι : List Addr} {S : Store} {H : Hp} {i : Nat} {p : Addr} {o o' : HO} {c : Cell} (r : RS K mg ι S H) (hp : ι[i]? = some p) (ho : H p = some o') (hk : (∀ x, o' ≠ .tup x) ∧ (∀ x y, o' ≠ .frz x y) ∧ ∀ x, o' ≠ .xd x)
    (hc : CellOk K mg ι (upd H p o) p c) : RS K mg ι (S.set i c) (upd H p o) ∧ Ext ι H ι (upd H p o) := by
  have x : Ext ι H ι (upd H p o) := Ext.put hp ho hk
  refine ⟨⟨by simpa using r.len, r.nd, fun j c' a e1 e2 => ?_⟩, x⟩
  by_cases hj : j = i
  · subst hj
    rw [hp] at e2; cases e2
    have hl : j < S.length := by rw [r.len]; exact (List.getElem?_eq_some_iff.mp hp).1
    rw [List.getElem?_set_self hl] at e1
    cases e1
    exact hc
  · rw [List.getElem?_set_ne (Ne.symm hj)] at e1
    have ne : a ≠ p := fun z => hj (nd_ix r.nd (z ▸ e2) hp)
    exact (r.at_ j c' a e1 e2).move x.mo (fun o e => by rw [upd_ne ne]; exact e) fun b fs e => by rw [upd_ne (fun z => hk.2.2 fs (by rw [z, ho] at e; exact Option.some.inj e))]; exact e

/-- slots -/
structure RE (K : PySem.W.Frag) (ι : List Addr) (H : Hp) (ρ : Sl) (σ : L2.St) : Prop where
  len : ρ.length = σ.length
  at_ : ∀ (i : Nat) (d : D), ρ[i]? = some (some d) → ∃ v, σ[i]? = some (some v) ∧ RD K ι H d v
theorem RE.mono {K : PySem.W.Frag} {ι ι1 : List Addr} {H H1 : Hp} {ρ : Sl} {σ : L2.St} (x : Ext ι H ι1 H1) (r : RE K ι H ρ σ) : RE K ι1 H1 ρ σ :=
  ⟨r.len, fun i d e => let ⟨v, a, b⟩ := r.at_ i d e; ⟨v, a, b.mono x⟩⟩
theorem RE.set {K : PySem.W.Frag} {ι : List Addr} {H : Hp} {ρ : Sl} {σ : L2.St} {d : D} {v : V} (r : RE K ι H ρ σ) (i : Nat) (h : RD K ι H d v) : RE K ι H (ρ.set i (some d)) (σ.set i (some v)) := by
  refine ⟨by simpa using r.len, fun j d' e => ?_⟩
  by_cases hj : j = i
  · subst hj
    by_cases hl : j < ρ.length
    · rw [List.getElem?_set_self hl] at e
      cases e
      exact ⟨v, List.getElem?_set_self (by rw [← r.len]; exact hl), h⟩
    · rw [List.getElem?_eq_none (by simpa using hl)] at e; cases e
  · rw [List.getElem?_set_ne (Ne.symm hj)] at e
    obtain ⟨v', a, b⟩ := r.at_ j d' e
    exact ⟨v', by rw [List.getElem?_set_ne (Ne.symm hj)]; exact a, b⟩
theorem RE.clear {K : PySem.W.Frag} {ι : List Addr} {H : Hp} {ρ : Sl} {σ : L2.St} (r : RE K ι H ρ σ) (i : Nat) : RE K ι H (ρ.set i none) (σ.set i none) := by
  refine ⟨by simpa using r.len, fun j d' e => ?_⟩
  by_cases hj : j = i
  · subst hj
    by_cases hl : j < ρ.length
    · rw [List.getElem?_set_self hl] at e; cases e
    · rw [List.getElem?_eq_none (by simpa using hl)] at e; cases e
  · rw [List.getElem?_set_ne (Ne.symm hj)] at e
    obtain ⟨v', a, b⟩ := r.at_ j d' e
    exact ⟨v', by rw [List.getElem?_set_ne (Ne.symm hj)]; exact a, b⟩
/-- an object that is no place is written -/
theorem Mo.side {ι : List Addr} {H : Hp} {a : Addr} {vs vs' : List V} (h : H a = some (.lst vs)) : Mo ι H ι (upd H a (.lst vs')) :=
  ⟨⟨[], by simp⟩, fun b us e => by rw [upd_ne (fun z => by rw [z, h] at e; cases e)]; exact e, fun b o u e => by rw [upd_ne (fun z => by rw [z, h] at e; cases e)]; exact e⟩
theorem RS.side {K : PySem.W.Frag} {mg : Str → Option Value} {ι : List Addr} {S : Store} {H : Hp} {a : Addr} {vs vs' : List V} (r : RS K mg ι S H) (h : H a = some (.lst vs)) (n : a ∉ ι) : RS K mg ι S (upd H a (.lst vs')) :=
  ⟨r.len, r.nd, fun i c b e1 e2 => (r.at_ i c b e1 e2).move (Mo.side h) (fun o e => by rw [upd_ne (show b ≠ a from fun z => n (by rw [← z]; exact List.mem_of_getElem? e2))]; exact e) fun b fs e => by rw [upd_ne (fun z => by rw [z, h] at e; cases e)]; exact e⟩
theorem Ext.side {ι ι' : List Addr} {H H' : Hp} {a : Addr} {o : HO} (x : Ext ι H ι' H') (h : H a = none) : Ext ι H ι' (upd H' a o) :=
  ⟨x.pre, x.new, fun b o e n => by rw [upd_ne (ne_of_none e h)]; exact x.keep b o e n, fun b vs e => by rw [upd_ne (ne_of_none e h)]; exact x.tups b vs e, fun b o u e => by rw [upd_ne (ne_of_none e h)]; exact x.frzs b o u e⟩
theorem Ext.stays {ι ι' : List Addr} {H H' : Hp} {a : Addr} {o : HO} (x : Ext ι H ι' H') (h : H a = some o) (n : a ∉ ι) : H' a = some o ∧ a ∉ ι' := ⟨x.keep a o h n, fun z => by
  rcases x.new a z with q | q
  · exact n q
  · rw [h] at q; cases q⟩
end MI

set_option Elab.async false
set_option linter.all false
set_option maxRecDepth 100000
namespace MI
open PySem PySem.Spec PyProof.Rows L2

def Res.bind {α β : Type} (r : Res α) (k : α → Store → Res β) : Res β := match r with
  | .ok a S => k a S
  | .exc c v S => .exc c v S
  | .no => .no
/-- what is wanted of a result: R tells how its value lies -/
def FinG {α β : Type} (K : PySem.W.Frag) (mg : Str → Option Value) (W : WX) (R : List Addr → Hp → α → β → Prop) (σ : L2.St) (ι : List Addr) (H : Hp) (r : Res α) (Q : β → Hp → Prop) : Prop := match r with
  | .ok a S => ∀ ι' H' v, Ext ι H ι' H' → RS K mg ι' S H' → R ι' H' a v → Q v H'
  | .exc c d S => ∀ ι' H' C dd fs u, Ext ι H ι' H' → RS K mg ι' S H' → mg c = some (.ref C) → H' dd = some (.xd fs) → fs.lookup ("value" : Str) = some u → RD K ι' H' d u → W (.ref C) (some dd) σ H'
  | .no => False
section
variable {K : PySem.W.Frag} {mg : Str → Option Value} {W : WX} {α β γ δ : Type} {R : List Addr → Hp → α → β → Prop} {R2 : List Addr → Hp → γ → δ → Prop} {σ : L2.St} {ι ι1 : List Addr} {H H1 : Hp}
theorem FinG.weak {r : Res α} {Q : β → Hp → Prop} (x : Ext ι H ι1 H1) (h : FinG K mg W R σ ι H r Q) : FinG K mg W R σ ι1 H1 r Q := by
  cases r with
  | ok a S => exact fun ι' H' v y rs rd => h ι' H' v (x.trans y) rs rd
  | exc c d S => exact fun ι' H' C dd fs u y => h ι' H' C dd fs u (x.trans y)
  | no => exact h
theorem FinG.imp {r : Res α} {Q Q' : β → Hp → Prop} (h : FinG K mg W R σ ι H r Q) (q : ∀ v H, Q v H → Q' v H) : FinG K mg W R σ ι H r Q' := by
  cases r with
  | ok a S => exact fun ι' H' v y rs rd => q _ _ (h ι' H' v y rs rd)
  | exc c d S => exact h
  | no => exact h
theorem FinG.bind {r : Res α} {k : α → Store → Res γ} {Q : δ → Hp → Prop} (h : FinG K mg W R2 σ ι H (r.bind k) Q) :
    FinG K mg W R σ ι H r (fun x H1 => ∃ a S1 ι1, Ext ι H ι1 H1 ∧ RS K mg ι1 S1 H1 ∧ R ι1 H1 a x ∧ FinG K mg W R2 σ ι1 H1 (k a S1) Q) := by
  cases r with
  | ok a S => exact fun ι' H' v y rs rd => ⟨a, S, ι', y, rs, rd, FinG.weak y h⟩
  | exc c d S => exact h
  | no => exact h
end
/-- readings of computations: an expression's, a test's, an argument list's -/
def tG {α β : Type} (K : PySem.W.Frag) (mg : Str → Option Value) (W : WX) (R : List Addr → Hp → α → β → Prop) (m : M α) : L2.St → Hp → (β → Hp → Prop) → Prop := fun σ H Q =>
  ∃ ι ρ S, RS K mg ι S H ∧ RE K ι H ρ σ ∧ FinG K mg W R σ ι H (m ρ S) Q
abbrev tE (K : PySem.W.Frag) (mg : Str → Option Value) (W : WX) (m : M D) : TE := tG K mg W (fun ι H d v => RD K ι H d v) m
abbrev tT (K : PySem.W.Frag) (mg : Str → Option Value) (W : WX) (m : M Bool) : TT := tG K mg W (fun _ _ b c => b = c) m
abbrev tA (K : PySem.W.Frag) (mg : Str → Option Value) (W : WX) (m : M (List D)) : TA := tG K mg W (fun ι H d v => RDs K ι H d v) m
theorem tG_seq {α β γ δ : Type} {K : PySem.W.Frag} {mg : Str → Option Value} {W : WX} {R : List Addr → Hp → α → β → Prop} {R2 : List Addr → Hp → γ → δ → Prop} {m : M α} {k : Sl → α → Store → Res γ} {σ : L2.St} {H : Hp} {Q : δ → Hp → Prop}
    (h : tG K mg W R2 (fun ρ S => (m ρ S).bind (k ρ)) σ H Q) : tG K mg W R m σ H (fun x H1 => ∃ ι1 ρ a S1, RS K mg ι1 S1 H1 ∧ RE K ι1 H1 ρ σ ∧ R ι1 H1 a x ∧ FinG K mg W R2 σ ι1 H1 (k ρ a S1) Q) := by
  obtain ⟨ι, ρ, S, rs, re, f⟩ := h
  refine ⟨ι, ρ, S, rs, re, FinG.imp f.bind fun x H1 q => ?_⟩
  obtain ⟨a, S1, ι1, y, rs1, rd, f1⟩ := q
  exact ⟨ι1, ρ, a, S1, rs1, re.mono y, rd, f1⟩
section
variable {X : Cx}
theorem _root_.L2.PE.imp {e : Expr} {t t' : TE} (h : PE X e t) (q : ∀ σ H Q, t' σ H Q → t σ H Q) : PE X e t' := ⟨fun pins s σ H Q I hw => h.run pins s σ H Q I (q _ _ _ hw)⟩
theorem _root_.L2.PT.imp {e : Expr} {t t' : TT} (h : PT X e t) (q : ∀ σ H Q, t' σ H Q → t σ H Q) : PT X e t' := ⟨fun pins s σ H Q I hw => h.run pins s σ H Q I (q _ _ _ hw)⟩
theorem _root_.L2.PW.imp {e : Expr} {t t' : TT} (h : PW X e t) (q : ∀ σ H Q, t' σ H Q → t σ H Q) : PW X e t' := ⟨fun wh pins s σ H Q I hw => h.run wh pins s σ H Q I (q _ _ _ hw)⟩
theorem _root_.L2.PA.imp {e : List Expr} {t t' : TA} (h : PA X e t) (q : ∀ σ H Q, t' σ H Q → t σ H Q) : PA X e t' := ⟨fun pos pins s σ H Q I hw => h.run pos pins s σ H Q I (q _ _ _ hw)⟩
theorem _root_.L2.PS.imp {e : Stmt} {t t' : TS} (h : PS X e t) (q : ∀ D σ H, t' D σ H → t D σ H) : PS X e t' := ⟨fun pins s σ H D I hw => h.run pins s σ H D I (q _ _ _ hw)⟩
theorem _root_.L2.PSs.imp {e : List Stmt} {t t' : TS} (h : PSs X e t) (q : ∀ D σ H, t' D σ H → t D σ H) : PSs X e t' := ⟨fun pins s σ H D I hw => h.run pins s σ H D I (q _ _ _ hw)⟩
end
/-- THE JUDGEMENTS -/
abbrev JE (X : Cx) (W : WX) (e : Expr) (m : M D) : Prop := PE X e (tE X.K X.mg W m)
abbrev JT (X : Cx) (W : WX) (e : Expr) (m : M Bool) : Prop := PT X e (tT X.K X.mg W m)
abbrev JA (X : Cx) (W : WX) (e : List Expr) (m : M (List D)) : Prop := PA X e (tA X.K X.mg W m)

/-! ### expressions -/
def mC (d : D) : M D := fun _ S => .ok d S
def mV (i : Nat) : M D := fun ρ S => match ρ[i]? with
  | some (some d) => .ok d S
  | _ => .no
def mOp (g : D → D → Store → Res D) (a b : M D) : M D := fun ρ S => (a ρ S).bind fun x S1 => (b ρ S1).bind fun y S2 => g x y S2
def mUn (g : D → Store → Res D) (a : M D) : M D := fun ρ S => (a ρ S).bind fun x S1 => g x S1
def mNil : M (List D) := fun _ S => .ok [] S
def mCons (a : M D) (r : M (List D)) : M (List D) := fun ρ S => (a ρ S).bind fun x S1 => (r ρ S1).bind fun xs S2 => .ok (x :: xs) S2
def mApp (g : List D → Store → Res D) (a : M (List D)) : M D := fun ρ S => (a ρ S).bind fun xs S1 => g xs S1
def noW : WX := fun _ _ _ _ => False
/-- a value-level operation as its reading: nothing is raised -/
def r2 (K : PySem.W.Frag) (mg : Str → Option Value) (g : D → D → Store → Res D) : R2 := fun x y H Q => ∃ ι S d e, RS K mg ι S H ∧ RD K ι H d x ∧ RD K ι H e y ∧ FinG K mg noW (fun ι H d v => RD K ι H d v) [] ι H (g d e S) Q
def r1 (K : PySem.W.Frag) (mg : Str → Option Value) (g : D → Store → Res D) : V → Hp → VK → Prop := fun x H Q => ∃ ι S d, RS K mg ι S H ∧ RD K ι H d x ∧ FinG K mg noW (fun ι H d v => RD K ι H d v) [] ι H (g d S) Q
def rN (K : PySem.W.Frag) (mg : Str → Option Value) (g : List D → Store → Res D) : List V → Hp → VK → Prop := fun xs H Q => ∃ ι S ds, RS K mg ι S H ∧ RDs K ι H ds xs ∧ FinG K mg noW (fun ι H d v => RD K ι H d v) [] ι H (g ds S) Q
/-- an operation that raises nothing -/
def Calm1 (g : D → Store → Res D) : Prop := ∀ d S c v S', g d S ≠ .exc c v S'
def Calm2 (g : D → D → Store → Res D) : Prop := ∀ d e S c v S', g d e S ≠ .exc c v S'
def CalmN (g : List D → Store → Res D) : Prop := ∀ ds S c v S', g ds S ≠ .exc c v S'
theorem FinG.calm {K : PySem.W.Frag} {mg : Str → Option Value} {W W' : WX} {α β : Type} {R : List Addr → Hp → α → β → Prop} {σ σ' : L2.St} {ι : List Addr} {H : Hp} {r : Res α} {Q : β → Hp → Prop} (hc : ∀ c v S, r ≠ .exc c v S) (h : FinG K mg W R σ ι H r Q) : FinG K mg W' R σ' ι H r Q := by
  cases r with
  | ok a S => exact h
  | exc c v S => exact absurd rfl (hc c v S)
  | no => exact h
section
variable {X : Cx} {W : WX} {a b e : Expr} {es : List Expr} {pos : Pos} {ma mb : M D} {mes : M (List D)}
theorem j_const {v : V} {d : D} (h : PE X e (tC v)) (r : ∀ K ι H, RD K ι H d v) : JE X W e (mC d) := h.imp fun σ H Q ⟨ι, ρ, S, rs, re, f⟩ => f ι H v (Ext.refl _ _) rs (r _ _ _)
theorem j_int {i j pos} : JE X W (.Constant (.int i) j pos) (mC (.int i)) := j_const pe_int fun _ _ _ => .int i
theorem j_bl {i j pos} : JE X W (.Constant (.bool i) j pos) (mC (.bl i)) := j_const pe_bl fun _ _ _ => .bl i
theorem j_non {j pos} : JE X W (.Constant .none j pos) (mC .non) := j_const pe_non fun _ _ _ => .non
theorem j_str {i j pos} : JE X W (.Constant (.str i) j pos) (mC (.str i)) := j_const pe_str fun _ _ _ => .str i
theorem j_v (i : Nat) {x : Str} {pos : Pos} (hN : X.N[i]? = some x := by rfl) (hv : Vis X.env.scope x := by first | exact Or.inl rfl | exact Or.inr (Or.inl rfl) | exact Or.inr (Or.inr rfl)) (hd : (x == ("__debug__" : Str)) = false := by decide)
    (hcd : (x == ("__classdict__" : Str)) = false := by decide) : JE X W (.Name x pos) (mV i) := (pe_var hN hv hd hcd).imp fun σ H Q ⟨ι, ρ, S, rs, re, f⟩ => by
  unfold mV at f
  cases e : ρ[i]? with
  | none => rw [e] at f; exact f.elim
  | some o =>
    rw [e] at f
    cases o with
    | none => exact f.elim
    | some d =>
      obtain ⟨v, hv, rd⟩ := re.at_ i d e
      exact ⟨v, hv, f ι H v (Ext.refl _ _) rs rd⟩
theorem j_op {op : Operator} {g : D → D → Store → Res D} (ho : OpR X (binaryOp op) (r2 X.K X.mg g)) (hc : Calm2 g) (ha : JE X W a ma) (hb : JE X W b mb) : JE X W (.BinOp a op b pos) (mOp g ma mb) :=
  (pe_op ho ha hb).imp fun σ H Q h => by
    obtain ⟨ι, ρ, S, rs, re, f⟩ := tG_seq (R := fun ι H d v => RD X.K ι H d v) (m := ma) (k := fun ρ x S1 => (mb ρ S1).bind fun y S2 => g x y S2) h
    refine ⟨ι, ρ, S, rs, re, f.imp fun x H1 ⟨ι1, ρ1, d, S1, rs1, re1, rd1, f1⟩ => ⟨ι1, ρ1, S1, rs1, re1, FinG.imp f1.bind fun y H2 ⟨e, S2, ι2, y2, rs2, rd2, f2⟩ => ?_⟩⟩
    exact ⟨ι2, S2, d, e, rs2, rd1.mono y2, rd2, f2.calm (hc _ _ _)⟩
theorem j_cmp {op : CmpOp} {g : D → D → Store → Res D} (ho : OpR X (compareOp op) (r2 X.K X.mg g)) (hc : Calm2 g) (ha : JE X W a ma) (hb : JE X W b mb) (hm : behindInMarks op b = false) : JE X W (.Compare a [op] [b] pos) (mOp g ma mb) :=
  (pe_cmpR ho ha hb hm).imp fun σ H Q h => by
    obtain ⟨ι, ρ, S, rs, re, f⟩ := tG_seq (R := fun ι H d v => RD X.K ι H d v) (m := ma) (k := fun ρ x S1 => (mb ρ S1).bind fun y S2 => g x y S2) h
    refine ⟨ι, ρ, S, rs, re, f.imp fun x H1 ⟨ι1, ρ1, d, S1, rs1, re1, rd1, f1⟩ => ⟨ι1, ρ1, S1, rs1, re1, FinG.imp f1.bind fun y H2 ⟨e, S2, ι2, y2, rs2, rd2, f2⟩ => ?_⟩⟩
    exact ⟨ι2, S2, d, e, rs2, rd1.mono y2, rd2, f2.calm (hc _ _ _)⟩
theorem j_un {op : UnaryOp} {g : D → Store → Res D} (ho : UnR X (unaryOp op) (r1 X.K X.mg g)) (hc : Calm1 g) (ha : JE X W a ma) : JE X W (.UnaryOp op a pos) (mUn g ma) :=
  (pe_un ho ha).imp fun σ H Q h => by
    obtain ⟨ι, ρ, S, rs, re, f⟩ := tG_seq (R := fun ι H d v => RD X.K ι H d v) (m := ma) (k := fun ρ x S1 => g x S1) h
    refine ⟨ι, ρ, S, rs, re, f.imp fun x H1 ⟨ι1, ρ1, d, S1, rs1, re1, rd1, f1⟩ => ?_⟩
    exact ⟨ι1, S1, d, rs1, rd1, f1.calm (hc _ _)⟩
/-! arguments -/
theorem j_nil : JA X W [] mNil := pa_nil.imp fun σ H Q ⟨ι, ρ, S, rs, re, f⟩ => f ι H [] (Ext.refl _ _) rs .nil
theorem j_cons (ha : JE X W e ma) (hr : JA X W es mes) (hs : starEach (e :: es) X.env = (false, eval e X.env) :: starEach es X.env := by rfl) : JA X W (e :: es) (mCons ma mes) :=
  (pa_cons ha hr hs).imp fun σ H Q h => by
    obtain ⟨ι, ρ, S, rs, re, f⟩ := tG_seq (R := fun ι H d v => RD X.K ι H d v) (m := ma) (k := fun ρ x S1 => (mes ρ S1).bind fun y S2 => .ok (x :: y) S2) h
    refine ⟨ι, ρ, S, rs, re, f.imp fun x H1 ⟨ι1, ρ1, d, S1, rs1, re1, rd1, f1⟩ => ⟨ι1, ρ1, S1, rs1, re1, FinG.imp f1.bind fun y H2 ⟨e, S2, ι2, y2, rs2, rd2, f2⟩ => ?_⟩⟩
    exact f2 ι2 H2 (x :: y) (Ext.refl _ _) rs2 (.cons (rd1.mono y2) rd2)
/-! displays -/
def gTup (xs : List D) (S : Store) : Res D := if xs.length ≤ 16777216 then .ok (.tup xs) S else .no
def gLst (xs : List D) (S : Store) : Res D := if xs.length ≤ 16777216 then .ok (.ref S.length) (S ++ [.lst xs]) else .no
theorem fin_tup {K : PySem.W.Frag} {mg : Str → Option Value} {W : WX} {σ : L2.St} {ι : List Addr} {S : Store} {H : Hp} {ds : List D} {vs : List V} {Q : VK} {p : Addr} (rs : RS K mg ι S H) (rd : RDs K ι H ds vs) (f : FinG K mg W (fun ι H d v => RD K ι H d v) σ ι H (.ok (.tup ds) S) Q) (hp : H p = none) :
    Q (.ref p) (upd H p (.tup vs)) := f ι _ _ (Ext.new0 hp) (rs.new0 hp) (.tup (.inl (.inl upd_same)) (rd.mono (Ext.new0 hp)))
theorem fin_lst {K : PySem.W.Frag} {mg : Str → Option Value} {W : WX} {σ : L2.St} {ι : List Addr} {S : Store} {H : Hp} {ds : List D} {vs : List V} {Q : VK} {p : Addr} (rs : RS K mg ι S H) (rd : RDs K ι H ds vs) (f : FinG K mg W (fun ι H d v => RD K ι H d v) σ ι H (.ok (.ref S.length) (S ++ [.lst ds])) Q) (hp : H p = none) :
    Q (.ref p) (upd H p (.lst vs)) :=
  f (ι ++ [p]) _ _ (Ext.new1 hp) (rs.push hp ⟨vs, upd_same, rd.mono (Ext.new1 hp)⟩) (.ref (by rw [rs.len, List.getElem?_append_right (Nat.le_refl _), Nat.sub_self]; rfl))
theorem j_tup {x1} (h : JA X W es mes) : JE X W (.Tuple es x1 pos) (mApp gTup mes) := (pe_tup h).imp fun σ H Q h => by
  obtain ⟨ι, ρ, S, rs, re, f⟩ := tG_seq (R := fun ι H d v => RDs X.K ι H d v) (m := mes) (k := fun ρ x S1 => gTup x S1) h
  refine ⟨ι, ρ, S, rs, re, f.imp fun vs H1 ⟨ι1, ρ1, ds, S1, rs1, re1, rd1, f1⟩ => ?_⟩
  unfold gTup at f1
  split at f1
  · rename_i hl
    exact ⟨by rw [← rd1.length, sizeLine_eq]; exact hl, fun p hp => fin_tup rs1 rd1 f1 hp⟩
  · exact f1.elim
theorem j_lst (h : JA X W es mes) : JE X W (.List es pos) (mApp gLst mes) := (pe_lst h).imp fun σ H Q h => by
  obtain ⟨ι, ρ, S, rs, re, f⟩ := tG_seq (R := fun ι H d v => RDs X.K ι H d v) (m := mes) (k := fun ρ x S1 => gLst x S1) h
  refine ⟨ι, ρ, S, rs, re, f.imp fun vs H1 ⟨ι1, ρ1, ds, S1, rs1, re1, rd1, f1⟩ => ?_⟩
  unfold gLst at f1
  split at f1
  · rename_i hl
    exact ⟨by rw [← rd1.length, sizeLine_eq]; exact hl, fun p hp => fin_lst rs1 rd1 f1 hp⟩
  · exact f1.elim
end
end MI

set_option Elab.async false
set_option linter.all false
set_option maxRecDepth 100000
namespace MI
open PySem PySem.Spec PyProof.Rows L2

/-! ### truth, tests -/
def gTru (d : D) (S : Store) : Option Bool := match d with
  | .non => some false
  | .bl b => some b
  | .int i => some (i != 0)
  | .str y => if y.length ≤ 16777216 then some ((y.length : Int) != 0) else none
  | .tup xs => some (!xs.isEmpty)
  | .fro xs => some (!xs.isEmpty)
  | .ref i => match S[i]? with
    | some (.lst xs) => some (!xs.isEmpty)
    | some (.dct kvs) => some (!kvs.isEmpty)
    | _ => none
def mTru (m : M D) : M Bool := fun ρ S => (m ρ S).bind fun d S1 => match gTru d S1 with
  | some b => .ok b S1
  | none => .no
def mAnd (a b : M Bool) : M Bool := fun ρ S => (a ρ S).bind fun c S1 => if c = true then b ρ S1 else .ok false S1
def mOr (a b : M Bool) : M Bool := fun ρ S => (a ρ S).bind fun c S1 => if c = true then .ok true S1 else b ρ S1
def mNot (a : M Bool) : M Bool := fun ρ S => (a ρ S).bind fun c S1 => .ok (!c) S1
/-- a and b as a value -/
def isB (d : D) : Option Bool := match d with
  | .bl b => some b
  | _ => none
def mAndV (a b : M D) : M D := fun ρ S => (a ρ S).bind fun x S1 => match isB x with
  | some c => if c = true then b ρ S1 else .ok (.bl false) S1
  | none => .no
def mOrV (a b : M D) : M D := fun ρ S => (a ρ S).bind fun x S1 => match isB x with
  | some c => if c = true then .ok (.bl true) S1 else b ρ S1
  | none => .no
def mNotV (a : M D) : M D := fun ρ S => (a ρ S).bind fun x S1 => match isB x with
  | some c => .ok (.bl (!c)) S1
  | none => .no
def mIf {α : Type} (c : M Bool) (a b : M α) : M α := fun ρ S => (c ρ S).bind fun c S1 => if c = true then a ρ S1 else b ρ S1

theorem RDs.isEmpty {K : PySem.W.Frag} {ι : List Addr} {H : Hp} {ds : List D} {vs : List V} (r : RDs K ι H ds vs) : ds.isEmpty = vs.isEmpty := by
  have := r.length
  cases ds <;> cases vs <;> simp_all
theorem RKV.isEmpty {K : PySem.W.Frag} {ι : List Addr} {H : Hp} {ds : List (Key × D)} {vs : List (Key × V)} (r : RKV K ι H ds vs) : ds.isEmpty = vs.isEmpty := by
  have := Paired.length r
  cases ds <;> cases vs <;> simp_all
theorem isB_some {d : D} {b : Bool} (h : isB d = some b) : d = .bl b := by
  cases d <;> simp [isB] at h
  rw [h]
theorem tru_v {K : PySem.W.Frag} {mg : Str → Option Value} {ι : List Addr} {S : Store} {H : Hp} {d : D} {v : V} {b : Bool} (rs : RS K mg ι S H) (rd : RD K ι H d v) (h : gTru d S = some b) : TruV K v H b := by
  cases rd with
  | non => simp only [gTru, Option.some.injEq] at h; exact h.symm
  | bl c => simp only [gTru, Option.some.injEq] at h; exact h.symm
  | int i => simp only [gTru, Option.some.injEq] at h; exact h.symm
  | str y =>
    simp only [gTru] at h
    split at h
    · rename_i hl
      exact ⟨by rw [sizeLine_eq]; exact hl, (Option.some.inj h).symm⟩
    · cases h
  | tup hs r =>
    simp only [gTru, Option.some.injEq] at h
    exact .inr (.inl ⟨_, hs, by rw [← h, r.isEmpty]⟩)
  | fro hs r =>
    simp only [gTru, Option.some.injEq] at h
    exact .inl ⟨_, hs.sql, by rw [← h, r.isEmpty]⟩
  | @ref i a hi =>
    simp only [gTru] at h
    cases e : S[i]? with
    | none => rw [e] at h; cases h
    | some c =>
      rw [e] at h
      have ok := rs.get' e hi
      cases c with
      | lst xs =>
        obtain ⟨vs, e1, r⟩ := ok
        exact .inl ⟨vs, SqL.of e1, by rw [← Option.some.inj h, r.isEmpty]⟩
      | dct kvs =>
        obtain ⟨vs, e1, r⟩ := ok
        exact .inr (.inr ⟨vs, e1, by rw [← Option.some.inj h, RKV.isEmpty r]⟩)
      | exc c v => cases h
section
variable {X : Cx} {W : WX} {a b e : Expr} {es : List Expr} {pos : Pos} {ma mb : M D} {mes : M (List D)} {ta tb : M Bool} {rest : List Expr}
theorem j_t (ha : JE X W a ma) (he : ∀ whole, isTrue a X.env whole = (do let v ← whole; standAt a.pos; holding [v] (truthy v)) := by intro _; rfl) : JT X W a (mTru ma) :=
  (pt_truth ha he).imp fun σ H Q h => by
    obtain ⟨ι, ρ, S, rs, re, f⟩ := tG_seq (R := fun ι H d v => RD X.K ι H d v) (m := ma) (k := fun ρ d S1 => match gTru d S1 with
      | some b => Res.ok b S1
      | none => .no) h
    refine ⟨ι, ρ, S, rs, re, f.imp fun x H1 ⟨ι1, ρ1, d, S1, rs1, re1, rd1, f1⟩ => ?_⟩
    cases g : gTru d S1 with
    | none => simp only [g] at f1; exact f1.elim
    | some b =>
      simp only [g] at f1
      exact ⟨b, tru_v rs1 rd1 g, f1 ι1 H1 b (Ext.refl _ _) rs1 rfl⟩
theorem j_and1 (ha : JT X W a ta) : PW X (.BoolOp .And [a] pos) (tT X.K X.mg W ta) := pw_and1 ha
theorem j_or1 (ha : JT X W a ta) : PW X (.BoolOp .Or [a] pos) (tT X.K X.mg W ta) := pw_or1 ha
theorem fin_and {K : PySem.W.Frag} {mg : Str → Option Value} {W : WX} {σ : L2.St} {H : Hp} {Q : Bool → Hp → Prop} (h : tT K mg W (mAnd ta tb) σ H Q) : tAnd (tT K mg W ta) (tT K mg W tb) σ H Q := by
  obtain ⟨ι, ρ, S, rs, re, f⟩ := tG_seq (R := fun _ _ b c => b = c) (m := ta) (k := fun ρ c S1 => if c = true then tb ρ S1 else .ok false S1) h
  refine ⟨ι, ρ, S, rs, re, f.imp fun x H1 ⟨ι1, ρ1, d, S1, rs1, re1, rd1, f1⟩ => ?_⟩
  subst rd1
  cases d with
  | true => exact ⟨ι1, ρ1, S1, rs1, re1, f1⟩
  | false => exact f1 ι1 H1 false (Ext.refl _ _) rs1 rfl
theorem fin_or {K : PySem.W.Frag} {mg : Str → Option Value} {W : WX} {σ : L2.St} {H : Hp} {Q : Bool → Hp → Prop} (h : tT K mg W (mOr ta tb) σ H Q) : tOr (tT K mg W ta) (tT K mg W tb) σ H Q := by
  obtain ⟨ι, ρ, S, rs, re, f⟩ := tG_seq (R := fun _ _ b c => b = c) (m := ta) (k := fun ρ c S1 => if c = true then .ok true S1 else tb ρ S1) h
  refine ⟨ι, ρ, S, rs, re, f.imp fun x H1 ⟨ι1, ρ1, d, S1, rs1, re1, rd1, f1⟩ => ?_⟩
  subst rd1
  cases d with
  | true => exact f1 ι1 H1 true (Ext.refl _ _) rs1 rfl
  | false => exact ⟨ι1, ρ1, S1, rs1, re1, f1⟩
theorem j_and (ha : JT X W a ta) (hb : PW X (.BoolOp .And (b :: rest) pos) (tT X.K X.mg W tb)) : PW X (.BoolOp .And (a :: b :: rest) pos) (tT X.K X.mg W (mAnd ta tb)) := (pw_and ha hb).imp fun _ _ _ h => fin_and h
theorem j_or (ha : JT X W a ta) (hb : PW X (.BoolOp .Or (b :: rest) pos) (tT X.K X.mg W tb)) : PW X (.BoolOp .Or (a :: b :: rest) pos) (tT X.K X.mg W (mOr ta tb)) := (pw_or ha hb).imp fun _ _ _ h => fin_or h
theorem j_pw (h : PW X e (tT X.K X.mg W ta)) : JT X W e ta := h.pt
theorem j_not (ha : JT X W a ta) : JT X W (.UnaryOp .Not a pos) (mNot ta) := (pt_not ha).imp fun σ H Q h => by
  obtain ⟨ι, ρ, S, rs, re, f⟩ := tG_seq (R := fun _ _ b c => b = c) (m := ta) (k := fun ρ c S1 => .ok (!c) S1) h
  refine ⟨ι, ρ, S, rs, re, f.imp fun x H1 ⟨ι1, ρ1, d, S1, rs1, re1, rd1, f1⟩ => ?_⟩
  subst rd1
  exact f1 ι1 H1 _ (Ext.refl _ _) rs1 rfl
/-! as values -/
theorem j_one {op} (ha : JE X W a ma) : JE X W (.BoolOp op [a] pos) ma := pe_one ha
theorem fin_isB {K : PySem.W.Frag} {mg : Str → Option Value} {W : WX} {σ : L2.St} {ι : List Addr} {H : Hp} {d : D} {v : V} {S : Store} {Q : VK} {k : Bool → Res D} (rd : RD K ι H d v)
    (f : FinG K mg W (fun ι H d v => RD K ι H d v) σ ι H (match isB d with
      | some c => k c
      | none => .no) Q) : ∃ c, v = .bl c ∧ FinG K mg W (fun ι H d v => RD K ι H d v) σ ι H (k c) Q := by
  cases g : isB d with
  | none => rw [g] at f; exact f.elim
  | some c =>
    rw [g] at f
    rw [isB_some g] at rd
    cases rd
    exact ⟨c, rfl, f⟩
theorem j_andV (ha : JE X W a ma) (hb : JE X W (.BoolOp .And (b :: rest) pos) mb) : JE X W (.BoolOp .And (a :: b :: rest) pos) (mAndV ma mb) := (pe_and ha hb).imp fun σ H Q h => by
  obtain ⟨ι, ρ, S, rs, re, f⟩ := tG_seq (R := fun ι H d v => RD X.K ι H d v) (m := ma) (k := fun ρ x S1 => match isB x with
    | some c => if c = true then mb ρ S1 else .ok (.bl false) S1
    | none => .no) h
  refine ⟨ι, ρ, S, rs, re, f.imp fun x H1 ⟨ι1, ρ1, d, S1, rs1, re1, rd1, f1⟩ => ?_⟩
  obtain ⟨c, rfl, f2⟩ := fin_isB (S := S1) (k := fun c => if c = true then mb ρ1 S1 else .ok (.bl false) S1) rd1 f1
  refine ⟨c, rfl, ?_⟩
  cases c with
  | true => exact ⟨ι1, ρ1, S1, rs1, re1, f2⟩
  | false => exact f2 ι1 H1 _ (Ext.refl _ _) rs1 (.bl false)
theorem j_orV (ha : JE X W a ma) (hb : JE X W (.BoolOp .Or (b :: rest) pos) mb) : JE X W (.BoolOp .Or (a :: b :: rest) pos) (mOrV ma mb) := (pe_or ha hb).imp fun σ H Q h => by
  obtain ⟨ι, ρ, S, rs, re, f⟩ := tG_seq (R := fun ι H d v => RD X.K ι H d v) (m := ma) (k := fun ρ x S1 => match isB x with
    | some c => if c = true then .ok (.bl true) S1 else mb ρ S1
    | none => .no) h
  refine ⟨ι, ρ, S, rs, re, f.imp fun x H1 ⟨ι1, ρ1, d, S1, rs1, re1, rd1, f1⟩ => ?_⟩
  obtain ⟨c, rfl, f2⟩ := fin_isB (S := S1) (k := fun c => if c = true then .ok (.bl true) S1 else mb ρ1 S1) rd1 f1
  refine ⟨c, rfl, ?_⟩
  cases c with
  | false => exact ⟨ι1, ρ1, S1, rs1, re1, f2⟩
  | true => exact f2 ι1 H1 _ (Ext.refl _ _) rs1 (.bl true)
theorem j_notV (ha : JE X W a ma) : JE X W (.UnaryOp .Not a pos) (mNotV ma) := (pe_not ha).imp fun σ H Q h => by
  obtain ⟨ι, ρ, S, rs, re, f⟩ := tG_seq (R := fun ι H d v => RD X.K ι H d v) (m := ma) (k := fun ρ x S1 => match isB x with
    | some c => Res.ok (D.bl (!c)) S1
    | none => .no) h
  refine ⟨ι, ρ, S, rs, re, f.imp fun x H1 ⟨ι1, ρ1, d, S1, rs1, re1, rd1, f1⟩ => ?_⟩
  obtain ⟨c, rfl, f2⟩ := fin_isB (S := S1) (k := fun c => Res.ok (D.bl (!c)) S1) rd1 f1
  exact ⟨c, rfl, f2 ι1 H1 _ (Ext.refl _ _) rs1 (.bl _)⟩
theorem j_if {c : Expr} (hc : JT X W c ta) (ha : JE X W a ma) (hb : JE X W b mb) : JE X W (.IfExp c a b pos) (mIf ta ma mb) := (pe_ifExp hc ha hb).imp fun σ H Q h => by
  obtain ⟨ι, ρ, S, rs, re, f⟩ := tG_seq (R := fun _ _ b c => b = c) (m := ta) (k := fun ρ c S1 => if c = true then ma ρ S1 else mb ρ S1) h
  refine ⟨ι, ρ, S, rs, re, f.imp fun x H1 ⟨ι1, ρ1, d, S1, rs1, re1, rd1, f1⟩ => ?_⟩
  subst rd1
  cases d with
  | true => exact ⟨ι1, ρ1, S1, rs1, re1, f1⟩
  | false => exact ⟨ι1, ρ1, S1, rs1, re1, f1⟩
end
end MI

set_option Elab.async false
set_option linter.all false
set_option maxRecDepth 100000
namespace MI
open PySem PySem.Spec PyProof.Rows L2

/-! ### whole numbers -/
def gInt2 (C : Int → Int → Bool) (f : Int → Int → D) : D → D → Store → Res D := fun x y S => match x, y with
  | .int i, .int j => if C i j then .ok (f i j) S else .no
  | _, _ => .no
theorem calm_int2 {C : Int → Int → Bool} {f : Int → Int → D} : Calm2 (gInt2 C f) := fun d e S c v S' h => by
  unfold gInt2 at h
  split at h
  · split at h <;> cases h
  · cases h
theorem RD.int_inv {K : PySem.W.Frag} {ι : List Addr} {H : Hp} {i : Int} {v : V} (h : RD K ι H (.int i) v) : v = .int i := by cases h; rfl
theorem RD.str_inv {K : PySem.W.Frag} {ι : List Addr} {H : Hp} {i : Str} {v : V} (h : RD K ι H (.str i) v) : v = .str i := by cases h; rfl
theorem RD.bl_inv {K : PySem.W.Frag} {ι : List Addr} {H : Hp} {i : Bool} {v : V} (h : RD K ι H (.bl i) v) : v = .bl i := by cases h; rfl
theorem RD.non_inv {K : PySem.W.Frag} {ι : List Addr} {H : Hp} {v : V} (h : RD K ι H .non v) : v = .non := by cases h; rfl
theorem RD.ref_inv {K : PySem.W.Frag} {ι : List Addr} {H : Hp} {i : Nat} {v : V} (h : RD K ι H (.ref i) v) : ∃ a, v = .ref a ∧ ι[i]? = some a := by cases h with | ref h => exact ⟨_, rfl, h⟩
theorem RD.tup_inv {K : PySem.W.Frag} {ι : List Addr} {H : Hp} {xs : List D} {v : V} (h : RD K ι H (.tup xs) v) : ∃ a vs, v = .ref a ∧ SqT K H a vs ∧ RDs K ι H xs vs := by cases h with | tup h r => exact ⟨_, _, rfl, h, r⟩
theorem RD.fro_inv {K : PySem.W.Frag} {ι : List Addr} {H : Hp} {xs : List D} {v : V} (h : RD K ι H (.fro xs) v) : ∃ a vs, v = .ref a ∧ SqF K H a vs ∧ RDs K ι H xs vs := by cases h with | fro h r => exact ⟨_, _, rfl, h, r⟩
section
variable {X : Cx}
theorem o_int2 {f : Value → Value → Sem Value} {C : Int → Int → Bool} {P : Int → Int → Prop} {g : Int → Int → V} {g' : Int → Int → D} (h : OpR X f (rI P g)) (hc : ∀ i j, C i j = true → P i j) (hr : ∀ K ι H i j, RD K ι H (g' i j) (g i j)) :
    OpR X f (r2 X.K X.mg (gInt2 C g')) := by
  intro pins s σ H x y v u Q I rx ry q
  obtain ⟨ι, S, d, e, rs, rd, re, fin⟩ := q
  unfold gInt2 at fin
  split at fin
  · rename_i i j
    split at fin
    · rename_i hC
      rw [rd.int_inv] at rx
      rw [re.int_inv] at ry
      exact h pins s σ H _ _ v u Q I rx ry ⟨i, j, rfl, rfl, hc i j hC, fin ι H _ (Ext.refl _ _) rs (hr _ _ _ _ _)⟩
    · exact fin.elim
  · exact fin.elim
theorem rI_of0 {f : Value → Value → Sem Value} {g : Int → Int → V} (h : OpR X f (rI0 g)) : OpR X f (rI (fun _ _ => True) g) := fun pins s σ H x y v u Q I rx ry ⟨i, j, a, b, _, q⟩ => h pins s σ H x y v u Q I rx ry ⟨i, j, a, b, q⟩
def tt2 : Int → Int → Bool := fun _ _ => true
abbrev gSub := gInt2 tt2 fun i j => .int (i - j)
abbrev gLt := gInt2 tt2 fun i j => .bl (decide (i < j))
abbrev gLe := gInt2 tt2 fun i j => .bl (decide (i ≤ j))
abbrev gGt := gInt2 tt2 fun i j => .bl (decide (j < i))
abbrev gGe := gInt2 tt2 fun i j => .bl (decide (j ≤ i))
def cDiv (_ j : Int) : Bool := j != 0 && decide (j.natAbs.log2 < 9000)
def cMod (_ j : Int) : Bool := j != 0
def cPow (i j : Int) : Bool := decide (0 ≤ j) && decide ((i.natAbs.log2 + 1 : Int) * j ≤ 2 ^ 27)
abbrev gDiv := gInt2 cDiv fun i j => .int (i.fdiv j)
abbrev gMod := gInt2 cMod fun i j => .int (i.fmod j)
abbrev gPow := gInt2 cPow fun i j => .int (i ^ j.toNat)
theorem bits_le (x : Int) : Builtin.Int.intBits x ≤ x.natAbs.log2 + 1 := by
  unfold Builtin.Int.intBits
  split <;> omega
theorem o_sub : OpR X (binaryOp .Sub) (r2 X.K X.mg gSub) := o_int2 (rI_of0 op_sub) (fun _ _ _ => trivial) fun _ _ _ _ _ => .int _
theorem o_lt : OpR X (compareOp .Lt) (r2 X.K X.mg gLt) := o_int2 (rI_of0 op_lt) (fun _ _ _ => trivial) fun _ _ _ _ _ => .bl _
theorem o_le : OpR X (compareOp .LtE) (r2 X.K X.mg gLe) := o_int2 (rI_of0 op_le) (fun _ _ _ => trivial) fun _ _ _ _ _ => .bl _
theorem o_gt : OpR X (compareOp .Gt) (r2 X.K X.mg gGt) := o_int2 (rI_of0 op_gt) (fun _ _ _ => trivial) fun _ _ _ _ _ => .bl _
theorem o_ge : OpR X (compareOp .GtE) (r2 X.K X.mg gGe) := o_int2 (rI_of0 op_ge) (fun _ _ _ => trivial) fun _ _ _ _ _ => .bl _
theorem op_fdivA : OpR X (binaryOp .FloorDiv) (rI (fun _ j => j ≠ 0 ∧ j.natAbs.log2 < 9000) fun i j => .int (i.fdiv j)) := opI fun _ _ _ _ _ _ _ hc q => floordiv_int hc.1 q (.inl (PyProof.noPylong_of_log2 hc.2))
theorem o_div : OpR X (binaryOp .FloorDiv) (r2 X.K X.mg gDiv) := o_int2 op_fdivA (fun i j h => by
  unfold cDiv at h
  rw [Bool.and_eq_true] at h
  exact ⟨by simpa using h.1, of_decide_eq_true h.2⟩) fun _ _ _ _ _ => .int _
theorem o_mod : OpR X (binaryOp .Mod) (r2 X.K X.mg gMod) := o_int2 op_modN (fun i j h => by simpa [cMod] using h) fun _ _ _ _ _ => .int _
theorem op_powA : OpR X (binaryOp .Pow) (rI (fun i j => 0 ≤ j ∧ (i.natAbs.log2 + 1 : Int) * j ≤ 2 ^ 27) fun i j => .int (i ^ j.toNat)) := opI fun i j _ _ _ _ _ hc q => pow_int hc.1 (by
  have h1 := bits_le i
  have h2 : (Builtin.Int.intBits i : Int) ≤ i.natAbs.log2 + 1 := by omega
  exact Int.le_trans (Int.mul_le_mul_of_nonneg_right h2 hc.1) hc.2) q
theorem o_pow : OpR X (binaryOp .Pow) (r2 X.K X.mg gPow) := o_int2 op_powA (fun i j h => by
  unfold cPow at h
  rw [Bool.and_eq_true] at h
  exact ⟨of_decide_eq_true h.1, of_decide_eq_true h.2⟩) fun _ _ _ _ _ => .int _
end
/-! ### * : numbers, lists, texts -/
def mulOk (i j : Int) : Bool := decide (i.natAbs.log2 + j.natAbs.log2 < 100000000)
def gMul : D → D → Store → Res D := fun x y S => match x, y with
  | .int i, .int j => if mulOk i j then .ok (.int (i * j)) S else .no
  | .ref a, .int k => match S[a]? with
    | some (.lst xs) => if xs.length * k.toNat ≤ 16777216 ∧ k.natAbs < 2 ^ 60 then .ok (.ref S.length) (S ++ [.lst (List.replicate k.toNat xs).flatten]) else .no
    | _ => .no
  | _, _ => .no
theorem calm_mul : Calm2 gMul := fun d e S c v S' h => by
  unfold gMul at h
  split at h
  · split at h <;> cases h
  · split at h
    · split at h <;> cases h
    · cases h
  · cases h
theorem mulOk_ok {i j : Int} (h : mulOk i j = true) : IntMulOk i j := by
  have h1 := bits_le i
  have h2 := bits_le j
  have h3 : i.natAbs.log2 + j.natAbs.log2 < 100000000 := of_decide_eq_true h
  have e : bitsLine = 134217728 := by decide
  unfold IntMulOk
  intro z
  rw [Bool.and_eq_true] at z
  have z2 := z.2
  unfold Builtin.Int.intTooBig at z2
  have z3 := of_decide_eq_true z2
  rw [e] at z3
  omega
theorem RDs.rep {K : PySem.W.Frag} {ι : List Addr} {H : Hp} {ds : List D} {vs : List V} (r : RDs K ι H ds vs) : ∀ n : Nat, RDs K ι H (List.replicate n ds).flatten (List.replicate n vs).flatten
  | 0 => .nil
  | n + 1 => by
    rw [List.replicate_succ, List.replicate_succ, List.flatten_cons, List.flatten_cons]
    exact r.app (RDs.rep r n)
section
variable {X : Cx}
theorem o_mul : OpR X (binaryOp .Mult) (r2 X.K X.mg gMul) := by
  intro pins s σ H x y v u Q I rx ry q
  obtain ⟨ι, S, d, e, rs, rd, re, fin⟩ := q
  unfold gMul at fin
  split at fin
  · rename_i i j
    split at fin
    · rename_i hC
      rw [rd.int_inv] at rx
      rw [re.int_inv] at ry
      obtain ⟨t, rfl⟩ := rx
      obtain ⟨t', rfl⟩ := ry
      exact mul_int ⟨.int _, H, I.tok _, ⟨_, rfl⟩, fin ι H _ (Ext.refl _ _) rs (.int _)⟩ (mulOk_ok hC)
    · exact fin.elim
  · rename_i i k
    obtain ⟨a, rfl, ha⟩ := rd.ref_inv
    rw [re.int_inv] at ry
    split at fin
    · rename_i xs hx
      split at fin
      · rename_i hk
        obtain ⟨vs, e1, r⟩ := rs.get' hx ha
        refine op_rep pins s σ H _ _ v u Q I rx ry ⟨a, k, vs, rfl, rfl, e1, by omega, by omega, by rw [← r.length, sizeLine_eq]; exact hk.1, fun p hp => ?_⟩
        exact fin_lst rs (r.rep _) fin hp
      · exact fin.elim
    · exact fin.elim
  · exact fin.elim
end
/-! ### + -/
def gAdd : D → D → Store → Res D := fun x y S => match x, y with
  | .int i, .int j => .ok (.int (i + j)) S
  | .str i, .str j => if i.length + j.length ≤ 16777216 then .ok (.str (i ++ j)) S else .no
  | .tup xs, .tup ys => if xs ≠ [] ∧ xs.length + ys.length ≤ 16777216 then .ok (.tup (xs ++ ys)) S else .no
  | .ref a, .ref b => match S[a]?, S[b]? with
    | some (.lst xs), some (.lst ys) => if xs.length + ys.length ≤ 16777216 then .ok (.ref S.length) (S ++ [.lst (xs ++ ys)]) else .no
    | _, _ => .no
  | _, _ => .no
instance (xs : List D) : Decidable (xs ≠ []) := match xs with
  | [] => isFalse fun h => h rfl
  | _ :: _ => isTrue fun h => nomatch h
theorem calm_add : Calm2 gAdd := fun d e S c v S' h => by
  unfold gAdd at h
  split at h
  · cases h
  · split at h <;> cases h
  · split at h <;> cases h
  · split at h
    · split at h <;> cases h
    · cases h
  · cases h
section
variable {X : Cx}
theorem RDs.nil_iff {K : PySem.W.Frag} {ι : List Addr} {H : Hp} {ds : List D} {vs : List V} (r : RDs K ι H ds vs) : ds = [] ↔ vs = [] := by
  have := r.length
  cases ds <;> cases vs <;> simp_all
theorem o_add : OpR X (binaryOp .Add) (r2 X.K X.mg gAdd) := by
  intro pins s σ H x y v u Q I rx ry q
  obtain ⟨ι, S, d, e, rs, rd, re, fin⟩ := q
  unfold gAdd at fin
  split at fin
  · rename_i i j
    rw [rd.int_inv] at rx
    rw [re.int_inv] at ry
    exact op_add pins s σ H _ _ v u Q I rx ry ⟨i, j, rfl, rfl, fin ι H _ (Ext.refl _ _) rs (.int _)⟩
  · rename_i i j
    rw [rd.str_inv] at rx
    rw [re.str_inv] at ry
    split at fin
    · rename_i hz
      exact op_add_str pins s σ H _ _ v u Q I rx ry ⟨i, j, rfl, rfl, by rw [sizeLine_eq]; exact hz, fin ι H _ (Ext.refl _ _) rs (.str _)⟩
    · exact fin.elim
  · rename_i xs ys
    obtain ⟨a, vs, rfl, ha, ra⟩ := rd.tup_inv
    obtain ⟨b, us, rfl, hb, rb⟩ := re.tup_inv
    split at fin
    · rename_i hz
      refine op_catT pins s σ H _ _ v u Q I rx ry ⟨a, b, vs, us, rfl, rfl, ha, hb, fun z => hz.1 (ra.nil_iff.mpr z), by rw [← ra.length, ← rb.length, sizeLine_eq]; exact hz.2, fun z => ?_, fun _ p hp => ?_⟩
      · have e1 : ys = [] := rb.nil_iff.mpr z
        subst e1
        rw [List.append_nil] at fin
        exact fin ι H _ (Ext.refl _ _) rs (.tup ha ra)
      · exact fin_tup rs (ra.app rb) fin hp
    · exact fin.elim
  · rename_i i j
    obtain ⟨a, rfl, ha⟩ := rd.ref_inv
    obtain ⟨b, rfl, hb⟩ := re.ref_inv
    split at fin
    · rename_i xs ys h1 h2
      split at fin
      · rename_i hz
        obtain ⟨vs, e1, r1⟩ := rs.get' h1 ha
        obtain ⟨us, e2, r2⟩ := rs.get' h2 hb
        exact op_cat pins s σ H _ _ v u Q I rx ry ⟨a, b, vs, us, rfl, rfl, e1, e2, by rw [← r1.length, ← r2.length, sizeLine_eq]; exact hz, fun p hp => fin_lst rs (r1.app r2) fin hp⟩
      · exact fin.elim
    · exact fin.elim
  · exact fin.elim
end
/-! ### data: ==, != -/
mutual
def toPy (S : Store) : Nat → D → Option PyData
  | 0, _ => none
  | _ + 1, .non => some .none
  | _ + 1, .bl b => some (.bool b)
  | _ + 1, .int i => some (.int i)
  | _ + 1, .str x => some (.str x)
  | n + 1, .tup xs => (toPys S n xs).map .tuple
  | n + 1, .fro xs => (toPys S n xs).map .list
  | n + 1, .ref i => match S[i]? with
    | some (.lst xs) => (toPys S n xs).map .list
    | _ => none
def toPys (S : Store) : Nat → List D → Option (List PyData)
  | 0, _ => none
  | _ + 1, [] => some []
  | n + 1, x :: xs => match toPy S n x, toPys S n xs with
    | some p, some ps => some (p :: ps)
    | _, _ => none
end
mutual
theorem toPy_dp {K : PySem.W.Frag} {mg : Str → Option Value} {ι : List Addr} {S : Store} {H : Hp} (rs : RS K mg ι S H) : ∀ (n : Nat) (d : D) (v : V) (p : PyData), RD K ι H d v → toPy S n d = some p → Dp K H v p
  | 0, _, _, _, _, h => by simp [toPy] at h
  | n + 1, .non, v, p, rd, h => by
    simp only [toPy, Option.some.injEq] at h
    subst h; rw [rd.non_inv]; exact .non
  | n + 1, .bl b, v, p, rd, h => by
    simp only [toPy, Option.some.injEq] at h
    subst h; rw [rd.bl_inv]; exact .bl b
  | n + 1, .int i, v, p, rd, h => by
    simp only [toPy, Option.some.injEq] at h
    subst h; rw [rd.int_inv]; exact .int i
  | n + 1, .str x, v, p, rd, h => by
    simp only [toPy, Option.some.injEq] at h
    subst h; rw [rd.str_inv]; exact .str x
  | n + 1, .tup xs, v, p, rd, h => by
    simp only [toPy, Option.map_eq_some_iff] at h
    obtain ⟨ps, h1, rfl⟩ := h
    obtain ⟨a, vs, rfl, ha, r⟩ := rd.tup_inv
    exact .tup ha (toPys_dp rs n xs vs ps r h1)
  | n + 1, .fro xs, v, p, rd, h => by
    simp only [toPy, Option.map_eq_some_iff] at h
    obtain ⟨ps, h1, rfl⟩ := h
    obtain ⟨a, vs, rfl, ha, r⟩ := rd.fro_inv
    exact .lst ha.sql (toPys_dp rs n xs vs ps r h1)
  | n + 1, .ref i, v, p, rd, h => by
    simp only [toPy] at h
    split at h
    · rename_i xs hx
      simp only [Option.map_eq_some_iff] at h
      obtain ⟨ps, h1, rfl⟩ := h
      obtain ⟨a, rfl, ha⟩ := rd.ref_inv
      obtain ⟨vs, e1, r⟩ := rs.get' hx ha
      exact .lst (SqL.of e1) (toPys_dp rs n xs vs ps r h1)
    · cases h
theorem toPys_dp {K : PySem.W.Frag} {mg : Str → Option Value} {ι : List Addr} {S : Store} {H : Hp} (rs : RS K mg ι S H) : ∀ (n : Nat) (ds : List D) (vs : List V) (ps : List PyData), RDs K ι H ds vs → toPys S n ds = some ps → DpAll K H vs ps
  | 0, _, _, _, _, h => by simp [toPys] at h
  | n + 1, [], vs, ps, r, h => by
    simp only [toPys, Option.some.injEq] at h
    subst h
    cases r
    exact .nil
  | n + 1, x :: xs, vs, ps, r, h => by
    cases r with
    | cons r1 r2 =>
      simp only [toPys] at h
      split at h
      · rename_i p ps' h1 h2
        cases h
        exact .cons (toPy_dp rs n x _ p r1 h1) (toPys_dp rs n xs _ ps' r2 h2)
      · cases h
end
def fuelD : Nat := 140
def gEqO (neg : Bool) : D → D → Store → Res D := fun x y S => match toPy S fuelD x, toPy S fuelD y with
  | some p, some q => if SeqAt.shaped p = true ∧ SeqAt.shaped q = true then .ok (.bl (if neg then !PyData.eqv p q else PyData.eqv p q)) S else .no
  | _, _ => .no
/-- == and != : texts of any signs, otherwise data -/
def gEqB (neg : Bool) : D → D → Store → Res D := fun x y S => match x, y with
  | .str a, .str b => .ok (.bl (if neg then !decide (a = b) else decide (a = b))) S
  | x, y => gEqO neg x y S
abbrev gEq := gEqB false
abbrev gNe := gEqB true
theorem calm_eq {neg : Bool} : Calm2 (gEqB neg) := fun d e S c v S' h => by
  unfold gEqB at h
  split at h
  · cases h
  · unfold gEqO at h
    split at h
    · split at h <;> cases h
    · cases h
section
variable {X : Cx}
theorem o_eq (hu : X.A.units + 64 < cLine) : OpR X (compareOp .Eq) (r2 X.K X.mg gEq) := by
  intro pins s σ H x y v u Q I rx ry q
  obtain ⟨ι, S, d, e, rs, rd, re, fin⟩ := q
  unfold gEq gEqB at fin
  split at fin
  · rename_i a b
    rw [rd.str_inv] at rx
    rw [re.str_inv] at ry
    refine op_eq pins s σ H _ _ v u Q I rx ry ⟨rfl, ?_⟩
    have z : decide (V.str a = V.str b) = decide (a = b) := by simp
    rw [z]
    exact fin ι H _ (Ext.refl _ _) rs (.bl _)
  · unfold gEqO at fin
    split at fin
    · rename_i p q h1 h2
      split at fin
      · rename_i hs
        exact op_eqD hu pins s σ H x y v u Q I rx ry ⟨p, q, toPy_dp rs _ _ _ _ rd h1, toPy_dp rs _ _ _ _ re h2, hs.1, hs.2, fin ι H _ (Ext.refl _ _) rs (.bl _)⟩
      · exact fin.elim
    · exact fin.elim
theorem o_ne (hu : X.A.units + 64 < cLine) : OpR X (compareOp .NotEq) (r2 X.K X.mg gNe) := by
  intro pins s σ H x y v u Q I rx ry q
  obtain ⟨ι, S, d, e, rs, rd, re, fin⟩ := q
  unfold gNe gEqB at fin
  split at fin
  · rename_i a b
    rw [rd.str_inv] at rx
    rw [re.str_inv] at ry
    refine op_ne pins s σ H _ _ v u Q I rx ry ⟨rfl, ?_⟩
    have z : decide (V.str a = V.str b) = decide (a = b) := by simp
    rw [z]
    exact fin ι H _ (Ext.refl _ _) rs (.bl _)
  · unfold gEqO at fin
    split at fin
    · rename_i p q h1 h2
      split at fin
      · rename_i hs
        exact op_neD hu pins s σ H x y v u Q I rx ry ⟨p, q, toPy_dp rs _ _ _ _ rd h1, toPy_dp rs _ _ _ _ re h2, hs.1, hs.2, fin ι H _ (Ext.refl _ _) rs (.bl _)⟩
      · exact fin.elim
    · exact fin.elim
end
/-! ### is -/
def isNonD : D → Bool
  | .non => true
  | _ => false
def gIs (neg : Bool) : D → D → Store → Res D := fun x y S => match y with
  | .non => .ok (.bl (isNonD x != neg)) S
  | .bl b => match x with
    | .bl a => .ok (.bl ((a == b) != neg)) S
    | _ => .no
  | _ => .no
theorem calm_is {neg : Bool} : Calm2 (gIs neg) := fun d e S c v S' h => by
  unfold gIs at h
  split at h
  · cases h
  · split at h <;> cases h
  · cases h
section
variable {X : Cx}
theorem RD.isNon {K : PySem.W.Frag} {ι : List Addr} {H : Hp} {d : D} {v : V} (h : RD K ι H d v) : decide (v = .non) = isNonD d := by
  cases h <;> simp [isNonD]
theorem o_is : OpR X (compareOp .Is) (r2 X.K X.mg (gIs false)) := by
  intro pins s σ H x y v u Q I rx ry q
  obtain ⟨ι, S, d, e, rs, rd, re, fin⟩ := q
  unfold gIs at fin
  split at fin
  · rw [re.non_inv] at ry
    refine op_isN pins s σ H x _ v u Q I rx ry ⟨rfl, ?_⟩
    rw [rd.isNon]
    have := fin ι H _ (Ext.refl _ _) rs (.bl _)
    simpa using this
  · split at fin
    · rename_i b _ a
      rw [re.bl_inv] at ry
      rw [rd.bl_inv] at rx
      refine op_isBl pins s σ H _ _ v u Q I rx ry ⟨a, b, rfl, rfl, ?_⟩
      have e : decide (a = b) = ((a == b) != false) := by cases a <;> cases b <;> rfl
      rw [e]
      exact fin ι H _ (Ext.refl _ _) rs (.bl _)
    · exact fin.elim
  · exact fin.elim
theorem o_isnot : OpR X (compareOp .IsNot) (r2 X.K X.mg (gIs true)) := by
  intro pins s σ H x y v u Q I rx ry q
  obtain ⟨ι, S, d, e, rs, rd, re, fin⟩ := q
  unfold gIs at fin
  split at fin
  · rw [re.non_inv] at ry
    refine op_notN pins s σ H x _ v u Q I rx ry ⟨rfl, ?_⟩
    rw [rd.isNon]
    have := fin ι H _ (Ext.refl _ _) rs (.bl _)
    simpa using this
  · split at fin
    · rename_i b _ a
      rw [re.bl_inv] at ry
      rw [rd.bl_inv] at rx
      refine op_notBl pins s σ H _ _ v u Q I rx ry ⟨a, b, rfl, rfl, ?_⟩
      have e : (!decide (a = b)) = ((a == b) != true) := by cases a <;> cases b <;> rfl
      rw [e]
      exact fin ι H _ (Ext.refl _ _) rs (.bl _)
    · exact fin.elim
  · exact fin.elim
def gNeg : D → Store → Res D := fun x S => match x with
  | .int i => .ok (.int (-i)) S
  | _ => .no
theorem calm_neg : Calm1 gNeg := fun d S c v S' h => by
  unfold gNeg at h
  split at h <;> cases h
theorem o_neg : UnR X (unaryOp .USub) (r1 X.K X.mg gNeg) := by
  intro pins s σ H x v Q I rx q
  obtain ⟨ι, S, d, rs, rd, fin⟩ := q
  unfold gNeg at fin
  split at fin
  · rename_i i
    rw [rd.int_inv] at rx
    exact un_neg pins s σ H _ v Q I rx ⟨i, rfl, fin ι H _ (Ext.refl _ _) rs (.int _)⟩
  · exact fin.elim
end
end MI

set_option Elab.async false
set_option linter.all false
set_option maxRecDepth 100000
namespace MI
open PySem PySem.Spec PyProof.Rows L2

/-! ### equality of values, to the letter -/
mutual
def D.beq : D → D → Bool
  | .non, .non => true
  | .bl a, .bl b => a == b
  | .int a, .int b => a == b
  | .str a, .str b => decide (a = b)
  | .tup xs, .tup ys => D.beqs xs ys
  | .fro xs, .fro ys => D.beqs xs ys
  | .ref i, .ref j => i == j
  | _, _ => false
def D.beqs : List D → List D → Bool
  | [], [] => true
  | x :: xs, y :: ys => D.beq x y && D.beqs xs ys
  | _, _ => false
end
mutual
theorem D.beq_refl : ∀ d : D, D.beq d d = true
  | .non => by simp [D.beq]
  | .bl _ => by simp [D.beq]
  | .int _ => by simp [D.beq]
  | .str _ => by simp [D.beq]
  | .tup xs => by simp only [D.beq]; exact D.beqs_refl xs
  | .fro xs => by simp only [D.beq]; exact D.beqs_refl xs
  | .ref _ => by simp [D.beq]
theorem D.beqs_refl : ∀ ds : List D, D.beqs ds ds = true
  | [] => by simp [D.beqs]
  | x :: xs => by simp only [D.beqs, D.beq_refl x, D.beqs_refl xs, Bool.and_true]
end
mutual
theorem D.beq_eq : ∀ (d e : D), D.beq d e = true → d = e
  | .non, e, h => by cases e <;> simp [D.beq] at h ⊢
  | .bl _, e, h => by cases e <;> simp [D.beq] at h ⊢; exact h
  | .int _, e, h => by cases e <;> simp [D.beq] at h ⊢; exact h
  | .str _, e, h => by cases e <;> simp [D.beq] at h ⊢; exact h
  | .tup xs, e, h => by cases e <;> simp [D.beq] at h ⊢; exact D.beqs_eq xs _ h
  | .fro xs, e, h => by cases e <;> simp [D.beq] at h ⊢; exact D.beqs_eq xs _ h
  | .ref _, e, h => by cases e <;> simp [D.beq] at h ⊢; exact h
theorem D.beqs_eq : ∀ (ds es : List D), D.beqs ds es = true → ds = es
  | [], es, h => by cases es <;> simp [D.beqs] at h ⊢
  | x :: xs, es, h => by
    cases es with
    | nil => simp [D.beqs] at h
    | cons y ys =>
      simp only [D.beqs, Bool.and_eq_true] at h
      rw [D.beq_eq x y h.1, D.beqs_eq xs ys h.2]
end

/-! ### what is walked -/
structure Src where
  cells : List (Nat × List D)
  items : List D
def cellIs (S : Store) (p : Nat × List D) : Bool := match S[p.1]? with
  | some (.lst xs) => D.beqs xs p.2
  | _ => false
def Src.ok (s : Src) (S : Store) : Bool := s.cells.all (cellIs S)
theorem cellIs_get {S : Store} {p : Nat × List D} (h : cellIs S p = true) : S[p.1]? = some (.lst p.2) := by
  unfold cellIs at h
  split at h
  · rename_i xs e
    rw [e, D.beqs_eq _ _ h]
  · cases h
theorem cellIs_of {S : Store} {a : Nat} {ds : List D} (h : S[a]? = some (.lst ds)) : cellIs S (a, ds) = true := by
  unfold cellIs
  simp only [h]
  exact D.beqs_refl ds
/-- J walks src, wherever its lists stand as they stood -/
def Wk (K : PySem.W.Frag) (mg : Str → Option Value) (ι : List Addr) (H : Hp) (src : Src) (J : It) : Prop :=
  ∀ ι1 S1 H1, Ext ι H ι1 H1 → RS K mg ι1 S1 H1 → src.ok S1 = true → ∀ i, (src.items.length ≤ i → J.stop i H1) ∧
    ∀ d, src.items[i]? = some d → J.go i H1 ∧ ∀ x H2, J.yld i H1 x H2 → Ext ι1 H1 ι1 H2 ∧ RS K mg ι1 S1 H2 ∧ RD K ι1 H2 d x
theorem Wk.weak {K : PySem.W.Frag} {mg : Str → Option Value} {ι ι' : List Addr} {H H' : Hp} {src : Src} {J : It} (x : Ext ι H ι' H') (h : Wk K mg ι H src J) : Wk K mg ι' H' src J := fun ι1 S1 H1 y => h ι1 S1 H1 (x.trans y)
def tI (K : PySem.W.Frag) (mg : Str → Option Value) (W : WX) (m : M Src) : TI := tG K mg W (fun ι H src J => Wk K mg ι H src J) m
abbrev JI (X : Cx) (W : WX) (tg iter : Expr) (m : M Src) : Prop := PI X tg iter (tI X.K X.mg W m)
theorem _root_.L2.PI.imp {X : Cx} {tg e : Expr} {t t' : TI} (h : PI X tg e t) (q : ∀ σ H R, t' σ H R → t σ H R) : PI X tg e t' := ⟨fun pins s σ H R I hw => h.run pins s σ H R I (q _ _ _ hw)⟩
/-- a list or a tuple by its value -/
def srcOf (d : D) (S : Store) : Res Src := match d with
  | .tup xs => .ok ⟨[], xs⟩ S
  | .fro xs => .ok ⟨[], xs⟩ S
  | .ref a => match S[a]? with
    | some (.lst xs) => .ok ⟨[(a, xs)], xs⟩ S
    | _ => .no
  | _ => .no
def mSrc (m : M D) : M Src := fun ρ S => (m ρ S).bind srcOf
theorem wk_tup {K : PySem.W.Frag} {mg : Str → Option Value} {ι : List Addr} {H : Hp} {a : Addr} {vs : List V} {xs : List D} (h : SqT K H a vs) (r : RDs K ι H xs vs) : Wk K mg ι H ⟨[], xs⟩ (Itt K a) := fun ι1 S1 H1 x rs _ i => by
  have h1 := x.sqT h
  have r1 := r.mono x
  refine ⟨fun hl => ⟨vs, h1, by rw [← r1.length]; exact hl⟩, fun d hd => ?_⟩
  obtain ⟨v, hv, rd⟩ := r1.get hd
  refine ⟨⟨vs, v, h1, hv⟩, fun y H2 hy => ?_⟩
  obtain ⟨rfl, hf⟩ := hy
  have e := hf vs h1
  rw [hv] at e
  cases e
  exact ⟨Ext.refl _ _, rs, rd⟩
theorem wk_fro {K : PySem.W.Frag} {mg : Str → Option Value} {ι : List Addr} {H : Hp} {a : Addr} {vs : List V} {xs : List D} (h : SqF K H a vs) (r : RDs K ι H xs vs) : Wk K mg ι H ⟨[], xs⟩ (Itl K a) := fun ι1 S1 H1 x rs _ i => by
  have h1 : SqL K H1 a vs := (x.mo.sqF h).sql
  have r1 := r.mono x
  refine ⟨fun hl => ⟨vs, h1, by rw [← r1.length]; exact hl⟩, fun d hd => ?_⟩
  obtain ⟨v, hv, rd⟩ := r1.get hd
  refine ⟨⟨vs, v, h1, hv⟩, fun y H2 hy => ?_⟩
  obtain ⟨rfl, hf⟩ := hy
  have e := hf vs h1
  rw [hv] at e
  cases e
  exact ⟨Ext.refl _ _, rs, rd⟩
theorem wk_cell {K : PySem.W.Frag} {mg : Str → Option Value} {ι : List Addr} {H : Hp} {a : Addr} {i : Nat} {xs : List D} (ha : ι[i]? = some a) : Wk K mg ι H ⟨[(i, xs)], xs⟩ (Itl K a) := fun ι1 S1 H1 x rs hok j => by
  have hc : S1[i]? = some (.lst xs) := cellIs_get (p := (i, xs)) (by simpa [Src.ok] using hok)
  obtain ⟨vs, e1, r1⟩ := rs.get' hc (x.at ha)
  have h1 : SqL K H1 a vs := SqL.of e1
  refine ⟨fun hl => ⟨vs, h1, by rw [← r1.length]; exact hl⟩, fun d hd => ?_⟩
  obtain ⟨v, hv, rd⟩ := r1.get hd
  refine ⟨⟨vs, v, h1, hv⟩, fun y H2 hy => ?_⟩
  obtain ⟨rfl, hf⟩ := hy
  have e := hf vs h1
  rw [hv] at e
  cases e
  exact ⟨Ext.refl _ _, rs, rd⟩
/-- for .. in e, e a tuple or a list -/
theorem pi_seq {X : Cx} {tg l : Expr} {tl : TE} (hl : PE X l tl) : PI X tg l (fun σ H R => tl σ H fun x H1 => ∃ a, x = .ref a ∧ (((∃ xs, SqL X.K H1 a xs) ∧ R (Itl X.K a) H1) ∨ ((∃ xs, SqT X.K H1 a xs) ∧ R (Itt X.K a) H1))) := by
  refine ⟨fun pins s σ H R I h => ?_⟩
  refine thn (hl.run pins s σ H _ I h) fun v s1 ⟨x, H1, I1, r1, q1⟩ => ?_
  obtain ⟨a, e, q⟩ := q1
  subst e
  cases r1
  rcases q with ⟨⟨xs, hq⟩, q⟩ | ⟨⟨xs, hq⟩, q⟩
  · obtain ⟨its, rv, p, hz⟩ := I1.list hq
    refine wpAny_pyIter_list p.isList ?_
    refine ⟨s1.heap.objs.size, [s1.heap.objs.size], _, _, H1, rfl, I1.kept (t' := s1.toks) fun b o e => Heap.get?_push_of_some _ e, turn_list a _, ⟨_, Heap.get?_push_size _ rfl, rfl, rfl⟩, fun b hb => ?_, q⟩
    have e : b = s1.heap.objs.size := by simpa using hb
    subst e
    exact I1.fpOk (Nat.le_refl _) (I1.hok.fresh (Nat.le_refl _))
  · obtain ⟨its, rv, p, hz⟩ := I1.tuple hq
    refine wpAny_pyIter_tuple (show s1.heap.IsTuple a its.toArray from p) ?_
    refine ⟨s1.heap.objs.size, [s1.heap.objs.size], _, _, H1, rfl, I1.kept (t' := s1.toks) fun b o e => Heap.get?_push_of_some _ e, turn_tuple a _, ⟨_, Heap.get?_push_size _ rfl, rfl, rfl⟩, fun b hb => ?_, q⟩
    have e : b = s1.heap.objs.size := by simpa using hb
    subst e
    exact I1.fpOk (Nat.le_refl _) (I1.hok.fresh (Nat.le_refl _))
theorem j_src {X : Cx} {W : WX} {tg e : Expr} {m : M D} (h : JE X W e m) : JI X W tg e (mSrc m) := (pi_seq h).imp fun σ H R h => by
  obtain ⟨ι, ρ, S, rs, re, f⟩ := tG_seq (R := fun ι H d v => RD X.K ι H d v) (m := m) (k := fun _ => srcOf) h
  refine ⟨ι, ρ, S, rs, re, f.imp fun x H1 ⟨ι1, ρ1, d, S1, rs1, re1, rd1, f1⟩ => ?_⟩
  cases d with
  | tup xs =>
    obtain ⟨a, vs, rfl, ha, r⟩ := rd1.tup_inv
    exact ⟨a, rfl, .inr ⟨⟨vs, ha⟩, f1 ι1 H1 _ (Ext.refl _ _) rs1 (wk_tup ha r)⟩⟩
  | fro xs =>
    obtain ⟨a, vs, rfl, ha, r⟩ := rd1.fro_inv
    exact ⟨a, rfl, .inl ⟨⟨vs, ha.sql⟩, f1 ι1 H1 _ (Ext.refl _ _) rs1 (wk_fro ha r)⟩⟩
  | ref i =>
    obtain ⟨a, rfl, ha⟩ := rd1.ref_inv
    simp only [srcOf] at f1
    split at f1
    · rename_i xs hx
      obtain ⟨vs, e1, r⟩ := rs1.get' hx ha
      exact ⟨a, rfl, .inl ⟨⟨vs, SqL.of e1⟩, f1 ι1 H1 _ (Ext.refl _ _) rs1 (wk_cell ha)⟩⟩
    · exact f1.elim
  | non => exact f1.elim
  | bl _ => exact f1.elim
  | int _ => exact f1.elim
  | str _ => exact f1.elim
/-! ranges -/
def rng (lo : Int) (n : Nat) : List D := (List.range n).map fun (i : Nat) => D.int (lo + (i : Int))
def small62 (i : Int) : Bool := decide (-(2 ^ 62) ≤ i ∧ i < 2 ^ 62)
def gRng1 (d : D) (S : Store) : Res Src := match d with
  | .int j => if small62 j then .ok ⟨[], rng 0 j.toNat⟩ S else .no
  | _ => .no
def gRng2 (d e : D) (S : Store) : Res Src := match d, e with
  | .int i, .int j => if small62 i ∧ small62 j then .ok ⟨[], rng i (j - i).toNat⟩ S else .no
  | _, _ => .no
def mRng1 (m : M D) : M Src := fun ρ S => (m ρ S).bind gRng1
def mRng2 (a b : M D) : M Src := fun ρ S => (a ρ S).bind fun x S1 => (b ρ S1).bind fun y S2 => gRng2 x y S2
theorem wk_rng {K : PySem.W.Frag} {mg : Str → Option Value} {ι : List Addr} {H : Hp} {lo : Int} {n : Nat} : Wk K mg ι H ⟨[], rng lo n⟩ (Itr lo n) := fun ι1 S1 H1 x rs _ i => by
  refine ⟨fun hl => (by simpa [rng] using hl : n ≤ i), fun d hd => ?_⟩
  have hi : i < n := by
    have := (List.getElem?_eq_some_iff.mp hd).1
    simpa [rng] using this
  refine ⟨hi, fun y H2 hy => ?_⟩
  obtain ⟨rfl, rfl⟩ := hy
  unfold rng at hd
  rw [List.getElem?_map, List.getElem?_range hi] at hd
  cases hd
  exact ⟨Ext.refl _ _, rs, .int _⟩
theorem RDs.nil_inv {K : PySem.W.Frag} {ι : List Addr} {H : Hp} {vs : List V} (h : RDs K ι H [] vs) : vs = [] := by cases h; rfl
theorem RDs.cons_inv {K : PySem.W.Frag} {ι : List Addr} {H : Hp} {d : D} {ds : List D} {vs : List V} (h : RDs K ι H (d :: ds) vs) : ∃ v us, vs = v :: us ∧ RD K ι H d v ∧ RDs K ι H ds us := by cases h with | cons h r => exact ⟨_, _, rfl, h, r⟩
theorem j_range1 {X : Cx} {W : WX} {tg a : Expr} {p pos : Pos} {m : M D} (hm : X.mg "range" = none) (ha : JE X W a m) (hg : Gl X "range" := by rfl) (hs : starEach [a] X.env = [(false, eval a X.env)] := by rfl) (hs0 : starEach [a] X.env = (false, eval a X.env) :: starEach [] X.env := by rfl) :
    JI X W tg (.Call (.Name "range" p) [a] [] pos) (mRng1 m) := (pi_range1 hg hm (pa_cons ha pa_nil hs0) hs).imp fun σ H R h => by
  obtain ⟨ι, ρ, S, rs, re, f⟩ := tG_seq (R := fun ι H d v => RD X.K ι H d v) (m := m) (k := fun _ => gRng1) h
  refine ⟨ι, ρ, S, rs, re, f.imp fun x H1 ⟨ι1, ρ1, d, S1, rs1, re1, rd1, f1⟩ => ?_⟩
  unfold gRng1 at f1
  split at f1
  · rename_i j
    split at f1
    · rename_i hj
      rw [rd1.int_inv]
      have hj' := of_decide_eq_true hj
      exact ⟨j, rfl, hj'.1, hj'.2, f1 ι1 H1 _ (Ext.refl _ _) rs1 wk_rng⟩
    · exact f1.elim
  · exact f1.elim
theorem j_range2 {X : Cx} {W : WX} {tg a b : Expr} {p pos : Pos} {m m2 : M D} (hm : X.mg "range" = none) (ha : JE X W a m) (hb : JE X W b m2) (hg : Gl X "range" := by rfl) (hs : starEach [a, b] X.env = [(false, eval a X.env), (false, eval b X.env)] := by rfl) (hs2 : starEach [b] X.env = [(false, eval b X.env)] := by rfl)
    (hs0 : starEach [a, b] X.env = (false, eval a X.env) :: starEach [b] X.env := by rfl) (hs1 : starEach [b] X.env = (false, eval b X.env) :: starEach [] X.env := by rfl) :
    JI X W tg (.Call (.Name "range" p) [a, b] [] pos) (mRng2 m m2) := (pi_range2 hg hm (pa_cons ha (pa_cons hb pa_nil hs1) hs0) hs hs2).imp fun σ H R h => by
  obtain ⟨ι, ρ, S, rs, re, f⟩ := tG_seq (R := fun ι H d v => RD X.K ι H d v) (m := m) (k := fun ρ x S1 => (m2 ρ S1).bind fun y S2 => gRng2 x y S2) h
  refine ⟨ι, ρ, S, rs, re, f.imp fun x H1 ⟨ι1, ρ1, d, S1, rs1, re1, rd1, f1⟩ => ⟨ι1, ρ1, S1, rs1, re1, FinG.imp f1.bind fun y H2 ⟨e, S2, ι2, y2, rs2, rd2, f2⟩ => ?_⟩⟩
  cases d with
  | int i =>
    cases e with
    | int j =>
      simp only [gRng2] at f2
      split at f2
      · rename_i hj
        rw [rd1.int_inv, rd2.int_inv]
        have h1 := of_decide_eq_true hj.1
        have h2 := of_decide_eq_true hj.2
        exact ⟨i, j, rfl, ⟨h1.1, h1.2, h2.1, h2.2⟩, f2 ι2 H2 _ (Ext.refl _ _) rs2 wk_rng⟩
      · exact f2.elim
    | _ => exact f2.elim
  | _ => exact f2.elim

/-! ### targets -/
inductive Tgt where
  | nm (i : Nat) | tp (ts : List Tgt)
mutual
def Tgt.slots : Tgt → List Nat
  | .nm i => [i]
  | .tp ts => Tgt.slotss ts
def Tgt.slotss : List Tgt → List Nat
  | [] => []
  | t :: ts => t.slots ++ Tgt.slotss ts
end
/-- the items of a tuple -/
def tupOf (d : D) : Option (List D) := match d with
  | .tup xs => some xs
  | _ => none
mutual
def asg : Tgt → D → Sl → Option Sl
  | .nm i, d, ρ => some (ρ.set i (some d))
  | .tp ts, d, ρ => match tupOf d with
    | some xs => asgs ts xs ρ
    | none => none
def asgs : List Tgt → List D → Sl → Option Sl
  | [], [], ρ => some ρ
  | t :: ts, d :: ds, ρ => match asg t d ρ with
    | some ρ1 => asgs ts ds ρ1
    | none => none
  | _, _, _ => none
end
def offs (vs : List Nat) (σ σ' : L2.St) : Prop := σ'.length = σ.length ∧ ∀ j, j ∉ vs → σ'[j]? = σ[j]?
theorem offs_wipe {vs : List Nat} {σ σ' : L2.St} (h : offs vs σ σ') : wipe σ' vs = wipe σ vs := by
  have key : ∀ (ws : List Nat) (j : Nat), (wipe σ' ws)[j]? = if j ∈ ws then (if j < σ'.length then some none else none) else σ'[j]? := by
    intro ws
    induction ws with
    | nil => intro j; simp [wipe]
    | cons v ws ih =>
      intro j
      unfold wipe
      by_cases hj : v = j
      · subst hj
        rw [List.getElem?_set]
        simp [wipe_length]
      · rw [List.getElem?_set_ne hj, ih j]
        have : (j ∈ v :: ws) ↔ j ∈ ws := by simp [Ne.symm hj]
        simp only [this]
  have key2 : ∀ (ws : List Nat) (j : Nat), (wipe σ ws)[j]? = if j ∈ ws then (if j < σ.length then some none else none) else σ[j]? := by
    intro ws
    induction ws with
    | nil => intro j; simp [wipe]
    | cons v ws ih =>
      intro j
      unfold wipe
      by_cases hj : v = j
      · subst hj
        rw [List.getElem?_set]
        simp [wipe_length]
      · rw [List.getElem?_set_ne hj, ih j]
        have : (j ∈ v :: ws) ↔ j ∈ ws := by simp [Ne.symm hj]
        simp only [this]
  apply List.ext_getElem?
  intro j
  rw [key vs j, key2 vs j, h.1]
  split
  · rfl
  · exact h.2 j (by assumption)
def tTg (K : PySem.W.Frag) (mg : Str → Option Value) (t : Tgt) : TG := fun v σ H Q => ∃ ι ρ S d ρ', RS K mg ι S H ∧ RE K ι H ρ σ ∧ RD K ι H d v ∧ asg t d ρ = some ρ' ∧ ∀ σ', RE K ι H ρ' σ' → offs t.slots σ σ' → Q σ' H
def tTgs (K : PySem.W.Frag) (mg : Str → Option Value) (t : List Tgt) : TGs := fun v σ H Q => ∃ ι ρ S d ρ', RS K mg ι S H ∧ RE K ι H ρ σ ∧ RDs K ι H d v ∧ asgs t d ρ = some ρ' ∧ ∀ σ', RE K ι H ρ' σ' → offs (Tgt.slotss t) σ σ' → Q σ' H
abbrev JG (X : Cx) (e : Expr) (t : Tgt) : Prop := PG X e (tTg X.K X.mg t)
abbrev JGs (X : Cx) (e : List Expr) (t : List Tgt) : Prop := PGs X e (tTgs X.K X.mg t)
theorem _root_.L2.PG.imp {X : Cx} {e : Expr} {t t' : TG} (h : PG X e t) (q : ∀ v σ H R, t' v σ H R → t v σ H R) : PG X e t' := ⟨fun pins s σ H v u R I r hw => h.run pins s σ H v u R I r (q _ _ _ _ hw)⟩
theorem _root_.L2.PGs.imp {X : Cx} {e : List Expr} {t t' : TGs} (h : PGs X e t) (q : ∀ v σ H R, t' v σ H R → t v σ H R) : PGs X e t' := ⟨fun pins s σ H v u R I r hw => h.run pins s σ H v u R I r (q _ _ _ _ hw)⟩
section
variable {X : Cx} {pos : Pos}
theorem jg_name (i : Nat) {x : Str} (hN : X.N.Nodup) (hi : X.N[i]? = some x) (hx : Loc X.env.scope x) (hf : X.fn x = true ∨ X.env.scope.names.lookup x = some .local := by first | exact .inl rfl | exact .inr rfl | assumption) : JG X (.Name x pos) (.nm i) :=
  (pg_name hN hi hx hf).imp fun v σ H Q ⟨ι, ρ, S, d, ρ', rs, re, rd, e, q⟩ => by
    simp only [asg, Option.some.injEq] at e
    subst e
    exact q _ (re.set i rd) ⟨by simp, fun j hj => List.getElem?_set_ne (by simpa [Tgt.slots, eq_comm] using hj)⟩
theorem jgs_nil : JGs X [] [] := pgs_nil.imp fun v σ H Q ⟨ι, ρ, S, d, ρ', rs, re, rd, e, q⟩ => by
  cases d with
  | nil =>
    simp only [asgs, Option.some.injEq] at e
    subst e
    exact ⟨rd.nil_inv, q σ re ⟨rfl, fun _ _ => rfl⟩⟩
  | cons x xs => simp [asgs] at e
theorem jgs_cons {e : Expr} {es : List Expr} {t : Tgt} {ts : List Tgt} (h1 : JG X e t) (h2 : JGs X es ts) (hs : (assignEach (e :: es) X.env).map (·.2) = assign e X.env :: (assignEach es X.env).map (·.2) := by rfl) : JGs X (e :: es) (t :: ts) :=
  (pgs_cons h1 h2 hs).imp fun v σ H Q ⟨ι, ρ, S, d, ρ', rs, re, rd, e, q⟩ => by
    cases d with
    | nil => simp [asgs] at e
    | cons x xs =>
      obtain ⟨v1, vr, rfl, r1, r2⟩ := rd.cons_inv
      simp only [asgs] at e
      split at e
      · rename_i ρ1 e1
        refine ⟨v1, vr, rfl, ι, ρ, S, x, ρ1, rs, re, r1, e1, fun σ' re' o1 => ?_⟩
        refine ⟨ι, ρ1, S, xs, ρ', rs, re', r2, e, fun σ2 re2 o2 => ?_⟩
        refine q σ2 re2 ⟨o2.1.trans o1.1, fun j hj => ?_⟩
        simp only [Tgt.slotss, List.mem_append, not_or] at hj
        exact (o2.2 j hj.2).trans (o1.2 j hj.1)
      · cases e
theorem asgs_len : ∀ {ts : List Tgt} {ds : List D} {ρ ρ' : Sl}, asgs ts ds ρ = some ρ' → ds.length = ts.length
  | [], [], _, _, _ => rfl
  | t :: ts, d :: ds, ρ, ρ', h => by
    simp only [asgs] at h
    split at h
    · rw [List.length_cons, List.length_cons, asgs_len h]
    · cases h
  | [], _ :: _, _, _, h => by simp [asgs] at h
  | _ :: _, [], _, _, h => by simp [asgs] at h
theorem jg_tup {es : List Expr} {k : Nat} {ts : List Tgt} (hc : X.calm = true) (h : JGs X es ts) (hn : (assignEach es X.env).length = ts.length := by rfl) (hst : (assignEach es X.env).findIdx? (·.1) = none := by rfl) : JG X (.Tuple es k pos) (.tp ts) :=
  (pg_tup hc h hn hst).imp fun v σ H Q ⟨ι, ρ, S, d, ρ', rs, re, rd, e, q⟩ => by
    simp only [asg] at e
    cases d with
    | tup xs =>
      obtain ⟨a, vs, rfl, ha, r⟩ := rd.tup_inv
      simp only [tupOf] at e
      exact ⟨a, vs, rfl, ha, by rw [← r.length]; exact asgs_len e, ι, ρ, S, xs, ρ', rs, re, r, e, fun σ' re' o => q σ' re' (by simpa [Tgt.slots] using o)⟩
    | _ => simp [tupOf] at e
end
end MI

set_option Elab.async false
set_option linter.all false
set_option maxRecDepth 100000
namespace MI
open PySem PySem.Spec PyProof.Rows L2

/-! ### statements -/
inductive SR where
  | next (ρ : Sl) (S : Store) | ret (d : D) (S : Store) | brk (ρ : Sl) (S : Store) | cont (ρ : Sl) (S : Store) | exc (c : Str) (v : D) (ρ : Sl) (S : Store) | no
abbrev MS := Sl → Store → SR
def SR.bindR {α : Type} (r : Res α) (ρ : Sl) (k : α → Store → SR) : SR := match r with
  | .ok a S => k a S
  | .exc c v S => .exc c v ρ S
  | .no => .no
def SR.then (r : SR) (k : Sl → Store → SR) : SR := match r with
  | .next ρ S => k ρ S
  | r => r
def FinS (K : PySem.W.Frag) (mg : Str → Option Value) (W : WX) (ι : List Addr) (H : Hp) (r : SR) (Dn : Ends) : Prop := match r with
  | .next ρ S => ∀ ι' H' σ', Ext ι H ι' H' → RS K mg ι' S H' → RE K ι' H' ρ σ' → Dn.nx σ' H'
  | .brk ρ S => ∀ ι' H' σ', Ext ι H ι' H' → RS K mg ι' S H' → RE K ι' H' ρ σ' → Dn.bk σ' H'
  | .cont ρ S => ∀ ι' H' σ', Ext ι H ι' H' → RS K mg ι' S H' → RE K ι' H' ρ σ' → Dn.ct σ' H'
  | .ret d S => ∀ ι' H' v, Ext ι H ι' H' → RS K mg ι' S H' → RD K ι' H' d v → Dn.rt v H'
  | .exc c d ρ S => ∀ ι' H' σ' C dd fs u, Ext ι H ι' H' → RS K mg ι' S H' → RE K ι' H' ρ σ' → mg c = some (.ref C) → H' dd = some (.xd fs) → fs.lookup ("value" : Str) = some u → RD K ι' H' d u → W (.ref C) (some dd) σ' H'
  | .no => False
section
variable {K : PySem.W.Frag} {mg : Str → Option Value} {W : WX} {ι ι1 : List Addr} {H H1 : Hp}
theorem FinS.weak {r : SR} {Q : Ends} (x : Ext ι H ι1 H1) (h : FinS K mg W ι H r Q) : FinS K mg W ι1 H1 r Q := by
  cases r with
  | next ρ S => exact fun ι' H' σ' y => h ι' H' σ' (x.trans y)
  | brk ρ S => exact fun ι' H' σ' y => h ι' H' σ' (x.trans y)
  | cont ρ S => exact fun ι' H' σ' y => h ι' H' σ' (x.trans y)
  | ret d S => exact fun ι' H' σ' y => h ι' H' σ' (x.trans y)
  | exc c d ρ S => exact fun ι' H' σ' C dd fs u y => h ι' H' σ' C dd fs u (x.trans y)
  | no => exact h
theorem FinS.bindR {α β : Type} {R : List Addr → Hp → α → β → Prop} {r : Res α} {ρ : Sl} {σ : L2.St} {k : α → Store → SR} {Q : Ends} (re : RE K ι H ρ σ) (h : FinS K mg W ι H (SR.bindR r ρ k) Q) :
    FinG K mg W R σ ι H r (fun x H1 => ∃ a S1 ι1, Ext ι H ι1 H1 ∧ RS K mg ι1 S1 H1 ∧ R ι1 H1 a x ∧ FinS K mg W ι1 H1 (k a S1) Q) := by
  cases r with
  | ok a S => exact fun ι' H' v y rs rd => ⟨a, S, ι', y, rs, rd, FinS.weak y h⟩
  | exc c d S => exact fun ι' H' C dd fs u y rs => h ι' H' σ C dd fs u y rs (re.mono y)
  | no => exact h
end
def tS (K : PySem.W.Frag) (mg : Str → Option Value) (W : WX) (m : MS) : TS := fun Dn σ H => ∃ ι ρ S, RS K mg ι S H ∧ RE K ι H ρ σ ∧ FinS K mg W ι H (m ρ S) Dn
abbrev JS (X : Cx) (W : WX) (st : Stmt) (m : MS) : Prop := PS X st (tS X.K X.mg W m)
abbrev JSs (X : Cx) (W : WX) (st : List Stmt) (m : MS) : Prop := PSs X st (tS X.K X.mg W m)
theorem tS_seq {α β : Type} {K : PySem.W.Frag} {mg : Str → Option Value} {W : WX} {R : List Addr → Hp → α → β → Prop} {m : M α} {k : Sl → α → Store → SR} {σ : L2.St} {H : Hp} {Q : Ends}
    (h : tS K mg W (fun ρ S => SR.bindR (m ρ S) ρ (k ρ)) Q σ H) : tG K mg W R m σ H (fun x H1 => ∃ ι1 ρ a S1, RS K mg ι1 S1 H1 ∧ RE K ι1 H1 ρ σ ∧ R ι1 H1 a x ∧ FinS K mg W ι1 H1 (k ρ a S1) Q) := by
  obtain ⟨ι, ρ, S, rs, re, f⟩ := h
  refine ⟨ι, ρ, S, rs, re, FinG.imp (f.bindR re) fun x H1 q => ?_⟩
  obtain ⟨a, S1, ι1, y, rs1, rd, f1⟩ := q
  exact ⟨ι1, ρ, a, S1, rs1, re.mono y, rd, f1⟩
def sPass : MS := fun ρ S => .next ρ S
def sSeq (a b : MS) : MS := fun ρ S => (a ρ S).then b
def sIf (c : M Bool) (a b : MS) : MS := fun ρ S => SR.bindR (c ρ S) ρ fun c S1 => if c = true then a ρ S1 else b ρ S1
def sRet (m : M D) : MS := fun ρ S => SR.bindR (m ρ S) ρ fun d S1 => .ret d S1
def sExpr (m : M D) : MS := fun ρ S => SR.bindR (m ρ S) ρ fun _ S1 => .next ρ S1
def sBrk : MS := fun ρ S => .brk ρ S
def sCont : MS := fun ρ S => .cont ρ S
def sAsg (t : Tgt) (m : M D) : MS := fun ρ S => SR.bindR (m ρ S) ρ fun d S1 => match asg t d ρ with
  | some ρ' => .next ρ' S1
  | none => .no
def sPar (i j : Nat) (a b : M D) : MS := fun ρ S => SR.bindR (a ρ S) ρ fun x S1 => SR.bindR (b ρ S1) ρ fun y S2 => .next ((ρ.set i (some x)).set j (some y)) S2
section
variable {X : Cx} {W : WX} {st : Stmt} {rest sa sb : List Stmt} {m ma mb : MS} {e a b c : Expr} {me m1 m2 : M D} {mc : M Bool} {pos : Pos}
theorem js_nil : JSs X W [] sPass := pss_nil.imp fun Dn σ H ⟨ι, ρ, S, rs, re, f⟩ => f ι H σ (Ext.refl _ _) rs re
theorem js_cons (h1 : JS X W st ma) (h2 : JSs X W rest mb) : JSs X W (st :: rest) (sSeq ma mb) := (pss_cons h1 h2).imp fun Dn σ H ⟨ι, ρ, S, rs, re, f⟩ => by
  refine ⟨ι, ρ, S, rs, re, ?_⟩
  unfold sSeq at f
  cases h : ma ρ S with
  | next ρ' S' =>
    rw [h] at f
    exact fun ι' H' σ' y rs' re' => ⟨ι', ρ', S', rs', re', FinS.weak y f⟩
  | ret d S' => rw [h] at f; exact f
  | brk ρ' S' => rw [h] at f; exact f
  | cont ρ' S' => rw [h] at f; exact f
  | exc c d ρ' S' => rw [h] at f; exact f
  | no => rw [h] at f; exact f
theorem js_one (h1 : JS X W st ma) : JSs X W [st] ma := pss_one h1
theorem js_pass : JS X W (.Pass pos) sPass := ps_pass.imp fun Dn σ H ⟨ι, ρ, S, rs, re, f⟩ => f ι H σ (Ext.refl _ _) rs re
theorem js_brk : JS X W (.Break pos) sBrk := ps_break.imp fun Dn σ H ⟨ι, ρ, S, rs, re, f⟩ => f ι H σ (Ext.refl _ _) rs re
theorem js_cont : JS X W (.Continue pos) sCont := ps_continue.imp fun Dn σ H ⟨ι, ρ, S, rs, re, f⟩ => f ι H σ (Ext.refl _ _) rs re
theorem js_if (hc : JT X W c mc) (ha : JSs X W sa ma) (hb : JSs X W sb mb) : JS X W (.If c sa sb pos) (sIf mc ma mb) := (ps_if hc ha hb).imp fun Dn σ H h => by
  obtain ⟨ι, ρ, S, rs, re, f⟩ := tS_seq (R := fun _ _ b c => b = c) (m := mc) (k := fun ρ c S1 => if c = true then ma ρ S1 else mb ρ S1) h
  refine ⟨ι, ρ, S, rs, re, f.imp fun x H1 ⟨ι1, ρ1, d, S1, rs1, re1, rd1, f1⟩ => ?_⟩
  subst rd1
  cases d with
  | true => exact ⟨ι1, ρ1, S1, rs1, re1, f1⟩
  | false => exact ⟨ι1, ρ1, S1, rs1, re1, f1⟩
theorem js_ret (he : JE X W e me) : JS X W (.Return (some e) pos) (sRet me) := (ps_ret he).imp fun Dn σ H h => by
  obtain ⟨ι, ρ, S, rs, re, f⟩ := tS_seq (R := fun ι H d v => RD X.K ι H d v) (m := me) (k := fun ρ d S1 => .ret d S1) h
  exact ⟨ι, ρ, S, rs, re, f.imp fun x H1 ⟨ι1, ρ1, d, S1, rs1, re1, rd1, f1⟩ => f1 ι1 H1 x (Ext.refl _ _) rs1 rd1⟩
theorem js_retN : JS X W (.Return none pos) (fun _ S => .ret .non S) := ps_retN.imp fun Dn σ H ⟨ι, ρ, S, rs, re, f⟩ => f ι H .non (Ext.refl _ _) rs .non
theorem js_expr (he : JE X W e me) (hs : swapsWith e none pos.line X.env = pure false := by rfl) : JS X W (.Expr e pos) (sExpr me) := (ps_expr he hs).imp fun Dn σ H h => by
  obtain ⟨ι, ρ, S, rs, re, f⟩ := tS_seq (R := fun ι H d v => RD X.K ι H d v) (m := me) (k := fun ρ d S1 => .next ρ S1) h
  exact ⟨ι, ρ, S, rs, re, f.imp fun x H1 ⟨ι1, ρ1, d, S1, rs1, re1, rd1, f1⟩ => f1 ι1 H1 σ (Ext.refl _ _) rs1 re1⟩
theorem fin_asg {K : PySem.W.Frag} {mg : Str → Option Value} {ι1 : List Addr} {ρ1 : Sl} {S1 : Store} {H1 : Hp} {σ : L2.St} {d : D} {x : V} {t : Tgt} {Dn : Ends} (rs1 : RS K mg ι1 S1 H1) (re1 : RE K ι1 H1 ρ1 σ) (rd1 : RD K ι1 H1 d x)
    (f1 : FinS K mg W ι1 H1 (match asg t d ρ1 with
      | some ρ' => .next ρ' S1
      | none => .no) Dn) : tTg K mg t x σ H1 Dn.nx := by
  cases h : asg t d ρ1 with
  | none => rw [h] at f1; exact f1.elim
  | some ρ' =>
    rw [h] at f1
    exact ⟨ι1, ρ1, S1, d, ρ', rs1, re1, rd1, h, fun σ' re' _ => f1 ι1 H1 σ' (Ext.refl _ _) rs1 re'⟩
theorem js_asg {tg : Expr} {t : Tgt} (hg : JG X tg t) (he : JE X W e me) (hs : swapsWithSole [tg] e pos.line X.env = pure false := by rfl) (hw : swappedStores [tg] e X.env = pure none := by rfl)
    (h1 : (assignEach [tg] X.env).map (·.2) = [assign tg X.env] := by rfl) : JS X W (.Assign [tg] e pos) (sAsg t me) := (ps_asg he hg hs hw h1).imp fun Dn σ H h => by
  obtain ⟨ι, ρ, S, rs, re, f⟩ := tS_seq (R := fun ι H d v => RD X.K ι H d v) (m := me) (k := fun ρ d S1 => match asg t d ρ with
    | some ρ' => .next ρ' S1
    | none => .no) h
  exact ⟨ι, ρ, S, rs, re, f.imp fun x H1 ⟨ι1, ρ1, d, S1, rs1, re1, rd1, f1⟩ => fin_asg rs1 re1 rd1 f1⟩
theorem js_set (i : Nat) {x : Str} {pos' : Pos} (hN : X.N.Nodup) (hi : X.N[i]? = some x) (hx : Loc X.env.scope x) (he : JE X W e me) (hs : swapsWith e (some (.Name x pos')) pos.line X.env = pure false := by rfl) (hf : X.fn x = true ∨ X.env.scope.names.lookup x = some .local := by first | exact .inl rfl | exact .inr rfl | assumption) :
    JS X W (.Assign [.Name x pos'] e pos) (sAsg (.nm i) me) := (ps_set hN hi hx he hs hf).imp fun Dn σ H h => by
  obtain ⟨ι, ρ, S, rs, re, f⟩ := tS_seq (R := fun ι H d v => RD X.K ι H d v) (m := me) (k := fun ρ d S1 => match asg (.nm i) d ρ with
    | some ρ' => .next ρ' S1
    | none => .no) h
  refine ⟨ι, ρ, S, rs, re, f.imp fun x H1 ⟨ι1, ρ1, d, S1, rs1, re1, rd1, f1⟩ => ?_⟩
  exact f1 ι1 H1 _ (Ext.refl _ _) rs1 (re1.set i rd1)
theorem js_par (i j : Nat) {x y : Str} {px py pt : Pos} {kt k2 pt2} (hc : X.calm = true) (hN : X.N.Nodup) (hi : X.N[i]? = some x) (hj : X.N[j]? = some y) (hij : i ≠ j)
    (hx : X.env.scope.names.lookup x = some .local) (hy : X.env.scope.names.lookup y = some .local) (ha : JE X W a m1) (hb : JE X W b m2) 
    (hw : swappedStores [.Tuple [.Name x px, .Name y py] kt pt] (.Tuple [a, b] k2 pt2) X.env = pure (some [x, y]))
    (hs : swapsWithSole [.Tuple [.Name x px, .Name y py] kt pt] (.Tuple [a, b] k2 pt2) pos.line X.env = pure false := by rfl) (hs0 : starEach [a, b] X.env = (false, eval a X.env) :: starEach [b] X.env := by rfl) (hs1 : starEach [b] X.env = (false, eval b X.env) :: starEach [] X.env := by rfl) :
    JS X W (.Assign [.Tuple [.Name x px, .Name y py] kt pt] (.Tuple [a, b] k2 pt2) pos) (sPar i j m1 m2) := (ps_par hc hN hi hj hij hx hy (pa_cons ha (pa_cons hb pa_nil hs1) hs0) hw hs).imp fun Dn σ H h => by
  obtain ⟨ι, ρ, S, rs, re, f⟩ := tS_seq (R := fun ι H d v => RD X.K ι H d v) (m := m1) (k := fun ρ x S1 => SR.bindR (m2 ρ S1) ρ fun y S2 => .next ((ρ.set i (some x)).set j (some y)) S2) h
  refine ⟨ι, ρ, S, rs, re, f.imp fun x H1 ⟨ι1, ρ1, d, S1, rs1, re1, rd1, f1⟩ => ⟨ι1, ρ1, S1, rs1, re1, FinG.imp (f1.bindR re1) fun y H2 ⟨e, S2, ι2, y2, rs2, rd2, f2⟩ => ?_⟩⟩
  exact ⟨x, y, rfl, f2 ι2 H2 _ (Ext.refl _ _) rs2 (((re1.mono y2).set i (rd1.mono y2)).set j rd2)⟩
end

/-! ### loops -/
def forL (t : Tgt) (body : MS) (src : Src) : List D → Sl → Store → SR
  | [], ρ, S => if src.ok S = true then .next ρ S else .no
  | d :: ds, ρ, S => if src.ok S = true then match asg t d ρ with
      | none => .no
      | some ρ1 => match body ρ1 S with
        | .next ρ2 S2 => forL t body src ds ρ2 S2
        | .cont ρ2 S2 => forL t body src ds ρ2 S2
        | .brk ρ2 S2 => .next ρ2 S2
        | r => r
    else .no
def sFor (t : Tgt) (m : M Src) (body : MS) : MS := fun ρ S => SR.bindR (m ρ S) ρ fun src S1 => forL t body src src.items ρ S1
theorem js_for {X : Cx} {W : WX} {tg iter : Expr} {body : List Stmt} {t : Tgt} {mi : M Src} {mb : MS} {pos : Pos} (hp : PassesOwn (model X.prog X.w) X.A X.env X.xe) (hc : X.calm = true) (hi : JI X W tg iter mi) (hg : JG X tg t) (hb : JSs X W body mb)
    (hs : ∀ x, foldedSetIterable iter X.env x = pure x := by intro _; rfl) : JS X W (.For tg iter body [] pos) (sFor t mi mb) := (ps_for hp hc hi hg hb hs).imp fun Dn σ H h => by
  obtain ⟨ι, ρ, S, rs, re, f⟩ := tS_seq (R := fun ι H src J => Wk X.K X.mg ι H src J) (m := mi) (k := fun ρ src S1 => forL t mb src src.items ρ S1) h
  refine ⟨ι, ρ, S, rs, re, f.imp fun J H1 ⟨ι1, ρ1, src, S1, rs1, re1, wk, f1⟩ => ?_⟩
  refine ⟨fun i m σ' H' => ∃ ι' ρ' S', Ext ι1 H1 ι' H' ∧ RS X.K X.mg ι' S' H' ∧ RE X.K ι' H' ρ' σ' ∧ i + m = src.items.length ∧ FinS X.K X.mg W ι' H' (forL t mb src (src.items.drop i) ρ' S') Dn, ⟨src.items.length, ι1, ρ1, S1, Ext.refl _ _, rs1, re1, Nat.zero_add _, f1⟩, ?_⟩
  rintro i m σ2 H2 ⟨ι2, ρ2, S2, x2, rs2, re2, hm, f2⟩
  by_cases hi : i < src.items.length
  · have hd : src.items.drop i = src.items[i] :: src.items.drop (i + 1) := List.drop_eq_getElem_cons hi
    rw [hd] at f2
    unfold forL at f2
    split at f2
    · rename_i hok
      obtain ⟨_, hgo⟩ := wk ι2 S2 H2 x2 rs2 hok i
      obtain ⟨go, hy⟩ := hgo _ (List.getElem?_eq_getElem hi)
      refine .inr ⟨go, fun σ' H' => ∃ ι' ρ' S', Ext ι1 H1 ι' H' ∧ RS X.K X.mg ι' S' H' ∧ RE X.K ι' H' ρ' σ' ∧ FinS X.K X.mg W ι' H' (forL t mb src (src.items.drop (i + 1)) ρ' S') Dn, fun σ' H' hN => ?_, fun v H3 hyl => ?_⟩
      · obtain ⟨ι', ρ', S', a1, a2, a3, a4⟩ := hN
        exact ⟨m - 1, by omega, ι', ρ', S', a1, a2, a3, by omega, a4⟩
      · obtain ⟨x3, rs3, rd3⟩ := hy v H3 hyl
        cases ha : asg t src.items[i] ρ2 with
        | none => rw [ha] at f2; exact f2.elim
        | some ρ3 =>
          rw [ha] at f2
          refine ⟨ι2, ρ2, S2, _, ρ3, rs3, re2.mono x3, rd3, ha, fun σ3 re3 _ => ⟨ι2, ρ3, S2, rs3, re3, ?_⟩⟩
          have f3 := FinS.weak x3 f2
          cases hb2 : mb ρ3 S2 with
          | next ρ4 S4 =>
            simp only [hb2] at f3
            exact fun ι' H' σ' y rs' re' => ⟨ι', ρ4, S4, (x2.trans x3).trans y, rs', re', FinS.weak y f3⟩
          | cont ρ4 S4 =>
            simp only [hb2] at f3
            exact fun ι' H' σ' y rs' re' => ⟨ι', ρ4, S4, (x2.trans x3).trans y, rs', re', FinS.weak y f3⟩
          | brk ρ4 S4 => simp only [hb2] at f3; exact f3
          | ret d S4 => simp only [hb2] at f3; exact f3
          | exc c d ρ4 S4 => simp only [hb2] at f3; exact f3
          | no => simp only [hb2] at f3; exact f3.elim
    · exact f2.elim
  · have hd : src.items.drop i = [] := List.drop_eq_nil_of_le (by omega)
    rw [hd] at f2
    unfold forL at f2
    split at f2
    · rename_i hok
      obtain ⟨hstop, _⟩ := wk ι2 S2 H2 x2 rs2 hok i
      exact .inl ⟨hstop (by omega), f2 ι2 H2 σ2 (Ext.refl _ _) rs2 re2⟩
    · exact f2.elim
/-- a while of at most n turns -/
def whL (c : M Bool) (body : MS) : Nat → Sl → Store → SR
  | 0, _, _ => .no
  | n + 1, ρ, S => SR.bindR (c ρ S) ρ fun b S1 => if b = true then match body ρ S1 with
      | .next ρ2 S2 => whL c body n ρ2 S2
      | .cont ρ2 S2 => whL c body n ρ2 S2
      | .brk ρ2 S2 => .next ρ2 S2
      | r => r
    else .next ρ S1
theorem js_while {X : Cx} {W : WX} {c : Expr} {body : List Stmt} {mc : M Bool} {mb : MS} {pos : Pos} (n : Nat) (hp : PassesOwn (model X.prog X.w) X.A X.env X.xe) (hc : JT X W c mc) (hb : JSs X W body mb) : JS X W (.While c body [] pos) (whL mc mb n) :=
  (ps_while hp hc hb).imp fun Dn σ H h => by
    obtain ⟨ι, ρ, S, rs, re, f⟩ := h
    refine ⟨fun m σ' H' => ∃ ι' ρ' S', RS X.K X.mg ι' S' H' ∧ RE X.K ι' H' ρ' σ' ∧ FinS X.K X.mg W ι' H' (whL mc mb m ρ' S') Dn, ⟨n, ι, ρ, S, rs, re, f⟩, ?_⟩
    rintro m σ2 H2 ⟨ι2, ρ2, S2, rs2, re2, f2⟩
    cases m with
    | zero => exact f2.elim
    | succ m =>
      unfold whL at f2
      refine ⟨ι2, ρ2, S2, rs2, re2, FinG.imp (FinS.bindR (R := fun _ _ b c => b = c) re2 f2) fun b H3 ⟨b', S3, ι3, x3, rs3, eb, f3⟩ => ?_⟩
      subst eb
      cases b' with
      | false => exact f3 ι3 H3 σ2 (Ext.refl _ _) rs3 (re2.mono x3)
      | true =>
        simp only [if_true] at f3 ⊢
        refine ⟨fun σ' H' => ∃ ι' ρ' S', RS X.K X.mg ι' S' H' ∧ RE X.K ι' H' ρ' σ' ∧ FinS X.K X.mg W ι' H' (whL mc mb m ρ' S') Dn, fun σ' H' hN => ⟨m, Nat.lt_succ_self m, hN⟩, ι3, ρ2, S3, rs3, re2.mono x3, ?_⟩
        cases hb2 : mb ρ2 S3 with
        | next ρ4 S4 =>
          simp only [hb2] at f3
          exact fun ι' H' σ' y rs' re' => ⟨ι', ρ4, S4, rs', re', FinS.weak y f3⟩
        | cont ρ4 S4 =>
          simp only [hb2] at f3
          exact fun ι' H' σ' y rs' re' => ⟨ι', ρ4, S4, rs', re', FinS.weak y f3⟩
        | brk ρ4 S4 => simp only [hb2] at f3; exact f3
        | ret d S4 => simp only [hb2] at f3; exact f3
        | exc c d ρ4 S4 => simp only [hb2] at f3; exact f3
        | no => simp only [hb2] at f3; exact f3.elim
end MI

set_option Elab.async false
set_option linter.all false
set_option maxRecDepth 100000
namespace MI
open PySem PySem.Spec PyProof.Rows L2

/-! ### calls of built-in functions and types -/
section
variable {X : Cx} {W : WX} {x : Str} {p pos : Pos} {e : Expr} {es : List Expr} {me : M D} {mes : M (List D)} {id T : String} {g : List D → Store → Res D}
theorem tCB_fin {K : PySem.W.Frag} {mg : Str → Option Value} {W : WX} {σ : L2.St} {H : Hp} {Q : VK} {mes : M (List D)} (hc : CalmN g) (h : tE K mg W (mApp g mes) σ H Q) : tCB (rN K mg g) (tA K mg W mes) σ H Q := by
  obtain ⟨ι, ρ, S, rs, re, f⟩ := tG_seq (R := fun ι H d v => RDs K ι H d v) (m := mes) (k := fun _ => g) h
  exact ⟨ι, ρ, S, rs, re, f.imp fun x H1 ⟨ι1, ρ1, ds, S1, rs1, re1, rd1, f1⟩ => ⟨ι1, S1, ds, rs1, rd1, f1.calm (hc _ _)⟩⟩
theorem j_callB (hc : CallR X (.builtin id) (rN X.K X.mg g)) (hcalm : CalmN g) (hm : X.mg x = none) (hv : bootBuiltins x = some (.builtin id)) (ha : JA X W (e :: es) mes) (hg : Gl X x := by rfl) (hn : x ≠ "__name__" := by decide) (hdb : (x == ("__debug__" : Str)) = false := by decide)
    (he : starEach (e :: es) X.env = (false, eval e X.env) :: starEach es X.env := by rfl) (hpl : (backTo pos (starEach es X.env)).any (·.1) = false := by rfl) : JE X W (.Call (.Name x p) (e :: es) [] pos) (mApp g mes) :=
  (pe_callB hc hg hm hv ha hn hdb he hpl).imp fun σ H Q h => tCB_fin hcalm h
theorem j_callTy (hc : CallR X (.type T) (rN X.K X.mg g)) (hcalm : CalmN g) (hm : X.mg x = none) (hv : bootBuiltins x = some (.type T)) (ha : JA X W (e :: es) mes) (hg : Gl X x := by rfl) (hn : x ≠ "__name__" := by decide) (hdb : (x == ("__debug__" : Str)) = false := by decide)
    (he : starEach (e :: es) X.env = (false, eval e X.env) :: starEach es X.env := by rfl) (hpl : (backTo pos (starEach es X.env)).any (·.1) = false := by rfl) : JE X W (.Call (.Name x p) (e :: es) [] pos) (mApp g mes) :=
  (pe_callTy hc hg hm hv ha hn hdb he hpl).imp fun σ H Q h => tCB_fin hcalm h
theorem j_callF (hc : CallR X (.builtin id) (rN X.K X.mg g)) (hcalm : CalmN g) (hm : X.mg x = some (.builtin id)) (ha : JA X W (e :: es) mes) (hg : Gl X x := by rfl) (hdb : (x == ("__debug__" : Str)) = false := by decide)
    (he : starEach (e :: es) X.env = (false, eval e X.env) :: starEach es X.env := by rfl) (hpl : (backTo pos (starEach es X.env)).any (·.1) = false := by rfl) : JE X W (.Call (.Name x p) (e :: es) [] pos) (mApp g mes) :=
  (pe_callBfun hc hg hm ha hdb he hpl).imp fun σ H Q h => tCB_fin hcalm h
end
/-! whole numbers -/
def gAbs (xs : List D) (S : Store) : Res D := match xs with
  | [.int i] => .ok (.int (if i < 0 then -i else i)) S
  | _ => .no
def gMax2 (xs : List D) (S : Store) : Res D := match xs with
  | [.int i, .int j] => .ok (.int (if j > i then j else i)) S
  | _ => .no
def gMin2 (xs : List D) (S : Store) : Res D := match xs with
  | [.int i, .int j] => .ok (.int (if j < i then j else i)) S
  | _ => .no
def gInt (xs : List D) (S : Store) : Res D := match xs with
  | [.int i] => .ok (.int i) S
  | [.bl b] => .ok (.int (if b then 1 else 0)) S
  | _ => .no
def gGcd (xs : List D) (S : Store) : Res D := match xs with
  | [.int a, .int b] => .ok (.int ((Nat.gcd a.natAbs b.natAbs : Nat) : Int)) S
  | _ => .no
def calmB {α : Type} (r : Res α) : Prop := ∀ c v S, r ≠ .exc c v S
theorem calm_abs : CalmN gAbs := fun ds S c v S' h => by unfold gAbs at h; split at h <;> cases h
theorem calm_max2 : CalmN gMax2 := fun ds S c v S' h => by unfold gMax2 at h; split at h <;> cases h
theorem calm_min2 : CalmN gMin2 := fun ds S c v S' h => by unfold gMin2 at h; split at h <;> cases h
theorem calm_int : CalmN gInt := fun ds S c v S' h => by unfold gInt at h; split at h <;> cases h
theorem calm_gcd : CalmN gGcd := fun ds S c v S' h => by unfold gGcd at h; split at h <;> cases h
theorem RDs.one_inv {K : PySem.W.Frag} {ι : List Addr} {H : Hp} {d : D} {vs : List V} (h : RDs K ι H [d] vs) : ∃ v, vs = [v] ∧ RD K ι H d v := by
  obtain ⟨v, us, rfl, r1, r2⟩ := h.cons_inv
  exact ⟨v, by rw [r2.nil_inv], r1⟩
theorem RDs.two_inv {K : PySem.W.Frag} {ι : List Addr} {H : Hp} {d e : D} {vs : List V} (h : RDs K ι H [d, e] vs) : ∃ v u, vs = [v, u] ∧ RD K ι H d v ∧ RD K ι H e u := by
  obtain ⟨v, us, rfl, r1, r2⟩ := h.cons_inv
  obtain ⟨u, rfl, r3⟩ := r2.one_inv
  exact ⟨v, u, rfl, r1, r3⟩
section
variable {X : Cx}
theorem c_abs : CallR X (.builtin "abs") (rN X.K X.mg gAbs) := by
  intro pins s σ H xs us Q I r h
  obtain ⟨ι, S, ds, rs, rd, f⟩ := h
  unfold gAbs at f
  split at f
  · rename_i i
    obtain ⟨v, rfl, r1⟩ := rd.one_inv
    rw [r1.int_inv] at r
    exact call_abs pins s σ H _ us Q I r ⟨i, rfl, f ι H _ (Ext.refl _ _) rs (.int _)⟩
  · exact f.elim
theorem c_max2 (hc : X.calm = true) : CallR X (.builtin "max") (rN X.K X.mg gMax2) := by
  intro pins s σ H xs us Q I r h
  obtain ⟨ι, S, ds, rs, rd, f⟩ := h
  unfold gMax2 at f
  split at f
  · rename_i i j
    obtain ⟨v, u, rfl, r1, r2⟩ := rd.two_inv
    rw [r1.int_inv, r2.int_inv] at r
    exact call_max2 hc pins s σ H _ us Q I r ⟨i, j, rfl, f ι H _ (Ext.refl _ _) rs (.int _)⟩
  · exact f.elim
theorem c_min2 (hc : X.calm = true) : CallR X (.builtin "min") (rN X.K X.mg gMin2) := by
  intro pins s σ H xs us Q I r h
  obtain ⟨ι, S, ds, rs, rd, f⟩ := h
  unfold gMin2 at f
  split at f
  · rename_i i j
    obtain ⟨v, u, rfl, r1, r2⟩ := rd.two_inv
    rw [r1.int_inv, r2.int_inv] at r
    exact call_min2 hc pins s σ H _ us Q I r ⟨i, j, rfl, f ι H _ (Ext.refl _ _) rs (.int _)⟩
  · exact f.elim
theorem c_int : CallR X (.type "int") (rN X.K X.mg gInt) := by
  intro pins s σ H xs us Q I r h
  obtain ⟨ι, S, ds, rs, rd, f⟩ := h
  unfold gInt at f
  split at f
  · rename_i i
    obtain ⟨v, rfl, r1⟩ := rd.one_inv
    rw [r1.int_inv] at r
    exact call_int1 pins s σ H _ us Q I r (.inl ⟨i, rfl, f ι H _ (Ext.refl _ _) rs (.int _)⟩)
  · rename_i b
    obtain ⟨v, rfl, r1⟩ := rd.one_inv
    rw [r1.bl_inv] at r
    exact call_int1 pins s σ H _ us Q I r (.inr ⟨b, rfl, f ι H _ (Ext.refl _ _) rs (.int _)⟩)
  · exact f.elim
theorem c_gcd : CallR X (.builtin "math.gcd") (rN X.K X.mg gGcd) := by
  intro pins s σ H xs us Q I r h
  obtain ⟨ι, S, ds, rs, rd, f⟩ := h
  unfold gGcd at f
  split at f
  · rename_i i j
    obtain ⟨v, u, rfl, r1, r2⟩ := rd.two_inv
    rw [r1.int_inv, r2.int_inv] at r
    exact cr_gcd pins s σ H _ us Q I r ⟨i, j, rfl, f ι H _ (Ext.refl _ _) rs (.int _)⟩
  · exact f.elim
end

/-! ### sequences -/
/-- the items of a list or a tuple -/
def seqOf (d : D) (S : Store) : Option (List D) := match d with
  | .tup xs => some xs
  | .fro xs => some xs
  | .ref i => match S[i]? with
    | some (.lst xs) => some xs
    | _ => none
  | _ => none
theorem seqOf_v {K : PySem.W.Frag} {mg : Str → Option Value} {ι : List Addr} {S : Store} {H : Hp} {d : D} {v : V} {xs : List D} (rs : RS K mg ι S H) (rd : RD K ι H d v) (h : seqOf d S = some xs) : ∃ a vs, v = .ref a ∧ RDs K ι H xs vs ∧ (SqL K H a vs ∨ (SqT K H a vs ∧ d = .tup xs)) := by
  cases d with
  | tup ys =>
    simp only [seqOf, Option.some.injEq] at h
    subst h
    obtain ⟨a, vs, rfl, ha, r⟩ := rd.tup_inv
    exact ⟨a, vs, rfl, r, .inr ⟨ha, rfl⟩⟩
  | fro ys =>
    simp only [seqOf, Option.some.injEq] at h
    subst h
    obtain ⟨a, vs, rfl, ha, r⟩ := rd.fro_inv
    exact ⟨a, vs, rfl, r, .inl ha.sql⟩
  | ref i =>
    simp only [seqOf] at h
    split at h
    · rename_i ys hy
      cases h
      obtain ⟨a, rfl, ha⟩ := rd.ref_inv
      obtain ⟨vs, e1, r⟩ := rs.get' hy ha
      exact ⟨a, vs, rfl, r, .inl (SqL.of e1)⟩
    · cases h
  | _ => simp [seqOf] at h
def gLen (xs : List D) (S : Store) : Res D := match xs with
  | [.str y] => if y.length ≤ 16777216 then .ok (.int y.length) S else .no
  | [d] => match seqOf d S with
    | some ds => .ok (.int ds.length) S
    | none => .no
  | _ => .no
theorem calm_len : CalmN gLen := fun ds S c v S' h => by
  unfold gLen at h
  split at h
  · split at h <;> cases h
  · split at h <;> cases h
  · cases h
def gList (xs : List D) (S : Store) : Res D := match xs with
  | [d] => match seqOf d S with
    | some ds => .ok (.ref S.length) (S ++ [.lst ds])
    | none => .no
  | _ => .no
theorem calm_list : CalmN gList := fun ds S c v S' h => by
  unfold gList at h
  split at h
  · split at h <;> cases h
  · cases h
def gTuple (xs : List D) (S : Store) : Res D := match xs with
  | [d] => match seqOf d S with
    | some ds => .ok (.tup ds) S
    | none => .no
  | _ => .no
theorem calm_tuple : CalmN gTuple := fun ds S c v S' h => by
  unfold gTuple at h
  split at h
  · split at h <;> cases h
  · cases h
section
variable {X : Cx}
theorem c_len : CallR X (.builtin "len") (rN X.K X.mg gLen) := by
  intro pins s σ H xs us Q I r h
  obtain ⟨ι, S, ds, rs, rd, f⟩ := h
  unfold gLen at f
  split at f
  · rename_i y
    obtain ⟨v, rfl, r1⟩ := rd.one_inv
    rw [r1.str_inv] at r
    split at f
    · rename_i hz
      exact call_len_str pins s σ H _ us Q I r ⟨y, rfl, by rw [sizeLine_eq]; exact hz, f ι H _ (Ext.refl _ _) rs (.int _)⟩
    · exact f.elim
  · rename_i d _
    obtain ⟨v, rfl, r1⟩ := rd.one_inv
    split at f
    · rename_i ys hy
      obtain ⟨a, vs, rfl, rr, hs⟩ := seqOf_v rs r1 hy
      rw [rr.length] at f
      exact call_len_seq pins s σ H _ us Q I r ⟨a, vs, rfl, hs.imp (fun z => z) (fun z => z.1), f ι H _ (Ext.refl _ _) rs (.int _)⟩
    · exact f.elim
  · exact f.elim
theorem c_list : CallR X (.type "list") (rN X.K X.mg gList) := by
  intro pins s σ H xs us Q I r h
  obtain ⟨ι, S, ds, rs, rd, f⟩ := h
  unfold gList at f
  split at f
  · rename_i d
    obtain ⟨v, rfl, r1⟩ := rd.one_inv
    split at f
    · rename_i ys hy
      obtain ⟨a, vs, rfl, rr, hs⟩ := seqOf_v rs r1 hy
      exact call_list_of pins s σ H _ us Q I r ⟨a, vs, rfl, hs.imp (fun z => z) (fun z => z.1), fun l hl => fin_lst rs rr f hl⟩
    · exact f.elim
  · exact f.elim
theorem c_tuple : CallR X (.type "tuple") (rN X.K X.mg gTuple) := by
  intro pins s σ H xs us Q I r h
  obtain ⟨ι, S, ds, rs, rd, f⟩ := h
  unfold gTuple at f
  split at f
  · rename_i d
    obtain ⟨v, rfl, r1⟩ := rd.one_inv
    split at f
    · rename_i ys hy
      obtain ⟨a, vs, rfl, rr, hs⟩ := seqOf_v rs r1 hy
      refine call_tuple_of pins s σ H _ us Q I r ⟨a, vs, rfl, ?_⟩
      rcases hs with hs | ⟨hs, rfl⟩
      · exact .inl ⟨hs, fun l hl => fin_tup rs rr f hl⟩
      · exact .inr ⟨hs, f ι H _ (Ext.refl _ _) rs r1⟩
    · exact f.elim
  · exact f.elim
/-- what a function of a list's items does, called with the list -/
def rSq (K : PySem.W.Frag) (mg : Str → Option Value) (g : List D → Store → Res D) : List V → Hp → VK → Prop := fun xs H Q => ∃ ι S ds p ys, xs = [.ref p] ∧ SqL K H p ys ∧ RS K mg ι S H ∧ RDs K ι H ds ys ∧ FinG K mg noW (fun ι H d v => RD K ι H d v) [] ι H (g ds S) Q
def gSq (g : List D → Store → Res D) (xs : List D) (S : Store) : Res D := match xs with
  | [d] => match d with
    | .tup _ => .no
    | d => match seqOf d S with
      | some ds => g ds S
      | none => .no
  | _ => .no
theorem calm_sq {g : List D → Store → Res D} (h : CalmN g) : CalmN (gSq g) := fun ds S c v S' e => by
  unfold gSq at e
  split at e
  · split at e
    · cases e
    · split at e
      · exact h _ _ _ _ _ e
      · cases e
  · cases e
theorem c_sq {f : Value} {g : List D → Store → Res D} (h : CallR X f (rSq X.K X.mg g)) : CallR X f (rN X.K X.mg (gSq g)) := by
  intro pins s σ H xs us Q I r q
  obtain ⟨ι, S, ds, rs, rd, f⟩ := q
  unfold gSq at f
  split at f
  · rename_i d
    obtain ⟨v, rfl, r1⟩ := rd.one_inv
    split at f
    · exact f.elim
    · rename_i d ne
      split at f
      · rename_i ys hy
        obtain ⟨a, vs, rfl, rr, hs⟩ := seqOf_v rs r1 hy
        rcases hs with hs | ⟨_, e⟩
        · exact h pins s σ H _ us Q I r ⟨ι, S, ys, a, vs, rfl, hs, rs, rr, f⟩
        · exact absurd e (ne ys)
      · exact f.elim
  · exact f.elim
def boolsOf : List D → Option (List Bool)
  | [] => some []
  | .bl b :: r => (boolsOf r).map (b :: ·)
  | _ => none
def intsOf : List D → Option (List Int)
  | [] => some []
  | .int b :: r => (intsOf r).map (b :: ·)
  | _ => none
theorem boolsOf_v {K : PySem.W.Frag} {ι : List Addr} {H : Hp} : ∀ {ds : List D} {vs : List V} {bs : List Bool}, RDs K ι H ds vs → boolsOf ds = some bs → vs = bs.map V.bl
  | [], vs, bs, r, h => by
    simp only [boolsOf, Option.some.injEq] at h
    subst h
    exact r.nil_inv
  | d :: ds, vs, bs, r, h => by
    obtain ⟨v, us, rfl, r1, r2⟩ := r.cons_inv
    cases d with
    | bl b =>
      simp only [boolsOf, Option.map_eq_some_iff] at h
      obtain ⟨bs', h1, rfl⟩ := h
      rw [r1.bl_inv, boolsOf_v r2 h1]
      rfl
    | _ => simp [boolsOf] at h
theorem intsOf_v {K : PySem.W.Frag} {ι : List Addr} {H : Hp} : ∀ {ds : List D} {vs : List V} {bs : List Int}, RDs K ι H ds vs → intsOf ds = some bs → vs = bs.map V.int
  | [], vs, bs, r, h => by
    simp only [intsOf, Option.some.injEq] at h
    subst h
    exact r.nil_inv
  | d :: ds, vs, bs, r, h => by
    obtain ⟨v, us, rfl, r1, r2⟩ := r.cons_inv
    cases d with
    | int b =>
      simp only [intsOf, Option.map_eq_some_iff] at h
      obtain ⟨bs', h1, rfl⟩ := h
      rw [r1.int_inv, intsOf_v r2 h1]
      rfl
    | _ => simp [intsOf] at h
def gAll (xs : List D) (S : Store) : Res D := match boolsOf xs with
  | some bs => .ok (.bl (bs.all id)) S
  | none => .no
def gAny (xs : List D) (S : Store) : Res D := match boolsOf xs with
  | some bs => .ok (.bl (bs.any id)) S
  | none => .no
def gSum (xs : List D) (S : Store) : Res D := match intsOf xs with
  | some ns => .ok (.int ns.sum) S
  | none => .no
theorem calm_all : CalmN gAll := fun ds S c v S' h => by unfold gAll at h; split at h <;> cases h
theorem calm_any : CalmN gAny := fun ds S c v S' h => by unfold gAny at h; split at h <;> cases h
theorem calm_sum : CalmN gSum := fun ds S c v S' h => by unfold gSum at h; split at h <;> cases h
theorem c_all (hc : X.calm = true) : CallR X (.builtin "all") (rSq X.K X.mg gAll) := by
  intro pins s σ H xs us Q I r ⟨ι, S, ds, p, ys, e, hs, rs, rd, f⟩
  unfold gAll at f
  split at f
  · rename_i bs hb
    have ev := boolsOf_v rd hb
    subst ev
    exact cr_all hc pins s σ H xs us Q I r ⟨p, bs, e, hs, f ι H _ (Ext.refl _ _) rs (.bl _)⟩
  · exact f.elim
theorem c_any (hc : X.calm = true) : CallR X (.builtin "any") (rSq X.K X.mg gAny) := by
  intro pins s σ H xs us Q I r ⟨ι, S, ds, p, ys, e, hs, rs, rd, f⟩
  unfold gAny at f
  split at f
  · rename_i bs hb
    have ev := boolsOf_v rd hb
    subst ev
    exact cr_any hc pins s σ H xs us Q I r ⟨p, bs, e, hs, f ι H _ (Ext.refl _ _) rs (.bl _)⟩
  · exact f.elim
theorem c_sum (hc : X.calm = true) : CallR X (.builtin "sum") (rSq X.K X.mg gSum) := by
  intro pins s σ H xs us Q I r ⟨ι, S, ds, p, ys, e, hs, rs, rd, f⟩
  unfold gSum at f
  split at f
  · rename_i bs hb
    have ev := intsOf_v rd hb
    subst ev
    exact cr_sum hc pins s σ H xs us Q I r ⟨p, bs, e, hs, f ι H _ (Ext.refl _ _) rs (.int _)⟩
  · exact f.elim
def gTupL (xs : List D) (S : Store) : Res D := .ok (.tup xs) S
def gListL (xs : List D) (S : Store) : Res D := .ok (.ref S.length) (S ++ [.lst xs])
def gLenL (xs : List D) (S : Store) : Res D := .ok (.int xs.length) S
theorem calm_tupL : CalmN gTupL := fun ds S c v S' h => nomatch h
theorem calm_listL : CalmN gListL := fun ds S c v S' h => nomatch h
theorem calm_lenL : CalmN gLenL := fun ds S c v S' h => nomatch h
theorem c_tupL : CallR X (.type "tuple") (rSq X.K X.mg gTupL) := by
  intro pins s σ H xs us Q I r ⟨ι, S, ds, p, ys, e, hs, rs, rd, f⟩
  exact call_tuple_of pins s σ H xs us Q I r ⟨p, ys, e, .inl ⟨hs, fun l hl => fin_tup rs rd f hl⟩⟩
theorem c_listL : CallR X (.type "list") (rSq X.K X.mg gListL) := by
  intro pins s σ H xs us Q I r ⟨ι, S, ds, p, ys, e, hs, rs, rd, f⟩
  exact call_list_of pins s σ H xs us Q I r ⟨p, ys, e, .inl hs, fun l hl => fin_lst rs rd f hl⟩
theorem c_lenL : CallR X (.builtin "len") (rSq X.K X.mg gLenL) := by
  intro pins s σ H xs us Q I r ⟨ι, S, ds, p, ys, e, hs, rs, rd, f⟩
  unfold gLenL at f
  rw [rd.length] at f
  exact call_len_seq pins s σ H xs us Q I r ⟨p, ys, e, .inl hs, f ι H _ (Ext.refl _ _) rs (.int _)⟩
end

/-! ### lists just made, not in the store -/
mutual
theorem RD.more {K : PySem.W.Frag} {ι : List Addr} {H : Hp} (t : List Addr) : ∀ {d : D} {v : V}, RD K ι H d v → RD K (ι ++ t) H d v
  | _, _, .non => .non
  | _, _, .bl b => .bl b
  | _, _, .int i => .int i
  | _, _, .str z => .str z
  | _, _, .tup h r => .tup h (RDs.more t r)
  | _, _, .ref h => .ref (by rw [List.getElem?_append_left (List.getElem?_eq_some_iff.mp h).1]; exact h)
  | _, _, .fro h r => .fro h (RDs.more t r)
theorem RDs.more {K : PySem.W.Frag} {ι : List Addr} {H : Hp} (t : List Addr) : ∀ {ds : List D} {vs : List V}, RDs K ι H ds vs → RDs K (ι ++ t) H ds vs
  | _, _, .nil => .nil
  | _, _, .cons h r => .cons (RD.more t h) (RDs.more t r)
end
theorem CellOk.more {K : PySem.W.Frag} {mg : Str → Option Value} {ι : List Addr} {H : Hp} {a : Addr} {c : Cell} (t : List Addr) (h : CellOk K mg ι H a c) : CellOk K mg (ι ++ t) H a c := by
  cases c with
  | lst xs => obtain ⟨vs, e, r⟩ := h; exact ⟨vs, e, r.more t⟩
  | dct kvs => obtain ⟨ws, e, r⟩ := h; exact ⟨ws, e, Paired.mapP r fun _ _ h => ⟨h.1, h.2.more t⟩⟩
  | exc c v => obtain ⟨C, dd, fs, u, e1, e2, e3, e4, r⟩ := h; exact ⟨C, dd, fs, u, e1, e2, e3, e4, r.more t⟩
theorem Ext.adopt {ι ι' : List Addr} {H H' : Hp} {a : Addr} (x : Ext ι H ι' H') (h : H a = none) : Ext ι H (ι' ++ [a]) H' := by
  obtain ⟨⟨t, e⟩, a0, ak, a1, a2⟩ := x
  refine ⟨⟨t ++ [a], by rw [e, List.append_assoc]⟩, fun b hb => ?_, ak, a1, a2⟩
  rcases List.mem_append.mp hb with z | z
  · exact a0 b z
  · have e : b = a := by simpa using z
    rw [e]; exact .inr h
theorem RS.adopt {K : PySem.W.Frag} {mg : Str → Option Value} {ι : List Addr} {S : Store} {H : Hp} {p : Addr} {c : Cell} (r : RS K mg ι S H) (h : p ∉ ι) (hc : CellOk K mg (ι ++ [p]) H p c) : RS K mg (ι ++ [p]) (S ++ [c]) H := by
  refine ⟨by simp [r.len], ?_, fun i c' a e1 e2 => ?_⟩
  · rw [List.nodup_append]
    refine ⟨r.nd, by simp, fun a ha b hb => ?_⟩
    have : b = p := by simpa using hb
    subst this
    exact fun e => h (e ▸ ha)
  · by_cases hi : i < S.length
    · rw [List.getElem?_append_left hi] at e1
      rw [List.getElem?_append_left (by rw [← r.len]; exact hi)] at e2
      exact (r.at_ i c' a e1 e2).more _
    · have e : i = S.length := by
        have h1 := (List.getElem?_eq_some_iff.mp e1).1
        rw [List.length_append, List.length_singleton] at h1
        omega
      subst e
      rw [List.getElem?_append_right (Nat.le_refl _), Nat.sub_self] at e1
      rw [List.getElem?_append_right (by rw [r.len]; exact Nat.le_refl _), r.len, Nat.sub_self] at e2
      simp at e1 e2
      subst e1; subst e2
      exact hc
/-- H0: the heap ahead of the making -/
def RLf (K : PySem.W.Frag) (H0 : Hp) (ι : List Addr) (H : Hp) (ds : List D) (v : V) : Prop := ∃ a vs, v = .ref a ∧ H0 a = none ∧ a ∉ ι ∧ H a = some (.lst vs) ∧ RDs K ι H ds vs
def tL (K : PySem.W.Frag) (mg : Str → Option Value) (W : WX) (m : M (List D)) : TE := fun σ H Q => ∃ ι ρ S, RS K mg ι S H ∧ RE K ι H ρ σ ∧ FinG K mg W (fun ι' H' ds v => RLf K H ι' H' ds v) σ ι H (m ρ S) Q
abbrev JL (X : Cx) (W : WX) (e : Expr) (m : M (List D)) : Prop := PE X e (tL X.K X.mg W m)
def mBox (m : M (List D)) : M D := fun ρ S => (m ρ S).bind fun ds S1 => .ok (.ref S1.length) (S1 ++ [.lst ds])
def mL (g : List D → Store → Res D) (m : M (List D)) : M D := fun ρ S => (m ρ S).bind g
section
variable {X : Cx} {W : WX} {x : Str} {p pos : Pos} {e : Expr} {es : List Expr} {m : M (List D)} {id T : String} {g : List D → Store → Res D}
theorem box_fin {K : PySem.W.Frag} {mg : Str → Option Value} {W : WX} {σ : L2.St} {H : Hp} {Q : VK} {m : M (List D)} (h : tE K mg W (mBox m) σ H Q) : tL K mg W m σ H Q := by
  obtain ⟨ι, ρ, S, rs, re, f⟩ := h
  refine ⟨ι, ρ, S, rs, re, ?_⟩
  unfold mBox at f
  cases hm : m ρ S with
  | ok ds S1 =>
    rw [hm] at f
    intro ι' H' v x rs' rl
    obtain ⟨a, vs, rfl, h0, na, ha, r⟩ := rl
    exact f (ι' ++ [a]) H' _ (x.adopt h0) (rs'.adopt na ⟨vs, ha, r.more _⟩) (.ref (by rw [rs'.len, List.getElem?_append_right (Nat.le_refl _), Nat.sub_self]; rfl))
  | exc c v S1 => rw [hm] at f; exact f
  | no => rw [hm] at f; exact f
theorem j_box (h : JL X W e m) : JE X W e (mBox m) := h.imp fun σ H Q h => box_fin h
theorem fin_sq {K : PySem.W.Frag} {mg : Str → Option Value} {W : WX} {σ : L2.St} {H : Hp} {Q : VK} {m : M (List D)} (hc : CalmN g) (h : tE K mg W (mL g m) σ H Q) :
    tCB (rSq K mg g) (tCons (tL K mg W m) tNil) σ H Q := by
  obtain ⟨ι, ρ, S, rs, re, f⟩ := h
  unfold mL at f
  refine ⟨ι, ρ, S, rs, re, FinG.imp f.bind fun v H1 ⟨ds, S1, ι1, x1, rs1, rl, f1⟩ => ?_⟩
  obtain ⟨a, vs, rfl, h0, na, ha, r⟩ := rl
  exact ⟨ι1, S1, ds, a, vs, rfl, SqL.of ha, rs1, r, f1.calm (hc _ _)⟩
/-- f([..]), f a built-in function -/
theorem j_callBL (hc : CallR X (.builtin id) (rSq X.K X.mg g)) (hcalm : CalmN g) (hm : X.mg x = none) (hv : bootBuiltins x = some (.builtin id)) (ha : JL X W e m) (hg : Gl X x := by rfl) (hn : x ≠ "__name__" := by decide) (hdb : (x == ("__debug__" : Str)) = false := by decide)
    (he : starEach (e :: []) X.env = (false, eval e X.env) :: starEach [] X.env := by rfl) (hpl : (backTo pos (starEach [] X.env)).any (·.1) = false := by rfl) : JE X W (.Call (.Name x p) [e] [] pos) (mL g m) :=
  (pe_callB hc hg hm hv (pa_cons ha pa_nil he) hn hdb he hpl).imp fun σ H Q h => fin_sq hcalm h
theorem j_callTyL (hc : CallR X (.type T) (rSq X.K X.mg g)) (hcalm : CalmN g) (hm : X.mg x = none) (hv : bootBuiltins x = some (.type T)) (ha : JL X W e m) (hg : Gl X x := by rfl) (hn : x ≠ "__name__" := by decide) (hdb : (x == ("__debug__" : Str)) = false := by decide)
    (he : starEach (e :: []) X.env = (false, eval e X.env) :: starEach [] X.env := by rfl) (hpl : (backTo pos (starEach [] X.env)).any (·.1) = false := by rfl) : JE X W (.Call (.Name x p) [e] [] pos) (mL g m) :=
  (pe_callTy hc hg hm hv (pa_cons ha pa_nil he) hn hdb he hpl).imp fun σ H Q h => fin_sq hcalm h

/-! ### list comprehensions -/
def wipeS (ρ : Sl) : List Nat → Sl
  | [] => ρ
  | v :: vs => (wipeS ρ vs).set v none
theorem RE.wipe {K : PySem.W.Frag} {ι : List Addr} {H : Hp} {ρ : Sl} {σ : L2.St} (r : RE K ι H ρ σ) : ∀ vs : List Nat, RE K ι H (wipeS ρ vs) (L2.wipe σ vs)
  | [] => r
  | v :: vs => (RE.wipe r vs).clear v
/-- what must raise nothing -/
def noX {α : Type} (r : Res α) : Res α := match r with
  | .exc _ _ _ => .no
  | r => r
def lcL (t : Tgt) (src : Src) (c : M Bool) (elt : M D) (ρ : Sl) : List D → Store → Res (List D)
  | [], S => if src.ok S = true then .ok [] S else .no
  | d :: ds, S => if src.ok S = true then match asg t d ρ with
      | none => .no
      | some ρ1 => (noX (c ρ1 S)).bind fun b S1 => if b = true then (noX (elt ρ1 S1)).bind fun x S2 => (lcL t src c elt ρ ds S2).bind fun xs S3 => .ok (x :: xs) S3
        else lcL t src c elt ρ ds S1
    else .no
def mLc (t : Tgt) (own : List Nat) (m : M Src) (c : M Bool) (elt : M D) : M (List D) := fun ρ S => (m ρ S).bind fun src S1 => if src.items.length < 16000000 then lcL t src c elt (wipeS ρ own) src.items S1 else .no
def mYes : M Bool := fun _ S => .ok true S
abbrev JC (X : Cx) (W : WX) (ifs : List Expr) (m : M Bool) : Prop := PTs X ifs (tT X.K X.mg W m)
theorem jc_nil : JC X W [] mYes := ⟨fun pins s σ H Q I ⟨ι, ρ, S, rs, re, f⟩ => pts_nil.run pins s σ H Q I (f ι H true (Ext.refl _ _) rs rfl)⟩
theorem jc_one {c : Expr} {m : M Bool} (h : JT X W c m) : JC X W [c] m := pts_one h
theorem wipe_wipe (σ : L2.St) (vs : List Nat) : L2.wipe (L2.wipe σ vs) vs = L2.wipe σ vs := offs_wipe ⟨by rw [wipe_length], fun j hj => by
  have key : ∀ ws : List Nat, j ∉ ws → (L2.wipe σ ws)[j]? = σ[j]? := by
    intro ws
    induction ws with
    | nil => intro _; rfl
    | cons w ws ih =>
      intro h
      simp only [List.mem_cons, not_or] at h
      unfold L2.wipe
      rw [List.getElem?_set_ne (Ne.symm h.1)]
      exact ih h.2
  exact key vs hj⟩
theorem fin_noX {K : PySem.W.Frag} {mg : Str → Option Value} {W W' : WX} {α β γ δ : Type} {R : List Addr → Hp → α → β → Prop} {R2 : List Addr → Hp → γ → δ → Prop} {σ σ' : L2.St} {ι ι0 : List Addr} {H H0 : Hp} {r : Res α} {k : α → Store → Res γ} {Q : δ → Hp → Prop}
    (h : FinG K mg W R2 σ ι0 H0 ((noX r).bind k) Q) : FinG K mg W' R σ' ι H r (fun x H1 => ∃ a S1 ι1, Ext ι H ι1 H1 ∧ RS K mg ι1 S1 H1 ∧ R ι1 H1 a x ∧ FinG K mg W R2 σ ι0 H0 (k a S1) Q) := by
  cases r with
  | ok a S => exact fun ι' H' v y rs rd => ⟨a, S, ι', y, rs, rd, h⟩
  | exc c d S => exact h.elim
  | no => exact h.elim
theorem Res.bind_assoc {α β γ : Type} (r : Res α) (f : α → Store → Res β) (g : β → Store → Res γ) : (r.bind f).bind g = r.bind fun a S => (f a S).bind g := by cases r <;> rfl
theorem Res.bind_pure {α : Type} (r : Res α) : (r.bind fun a S => .ok a S) = r := by cases r <;> rfl
theorem lc_fin {K : PySem.W.Frag} {mg : Str → Option Value} {W : WX} {σ : L2.St} {H : Hp} {Q : VK} {t : Tgt} {mi : M Src} {mc : M Bool} {me : M D} {own : List Nat} (hsub : ∀ j ∈ t.slots, j ∈ own) (h : tL K mg W (mLc t own mi mc me) σ H Q) :
    tLc (tI K mg W mi) (tTg K mg t) (tT K mg noW mc) (tE K mg noW me) own σ H Q := by
  obtain ⟨ι, ρ, S, rs, re, f⟩ := h
  unfold mLc at f
  refine ⟨ι, ρ, S, rs, re, ?_⟩
  cases hm : mi ρ S with
  | exc c v S1 => rw [hm] at f; exact f
  | no => rw [hm] at f; exact f
  | ok src S1 =>
    rw [hm] at f
    have f : FinG K mg W (fun ι' H' ds v => RLf K H ι' H' ds v) σ ι H (if src.items.length < 16000000 then lcL t src mc me (wipeS ρ own) src.items S1 else .no) Q := f
    split at f
    · rename_i hlen
      intro ι1 H1 J x1 rs1 wk L hL
      have reW := (re.mono x1).wipe own
      have hL0 : H L = none := by
        cases q : H L with
        | none => rfl
        | some o =>
          by_cases hi : L ∈ ι
          · obtain ⟨i, hi', e⟩ := List.getElem_of_mem hi
            have e1 : ι1[i]? = some L := x1.at (by rw [List.getElem?_eq_getElem hi', e])
            exact absurd (List.mem_of_getElem? e1) (rs1.fresh hL)
          · rw [x1.keep L o q hi] at hL; cases hL
      have nL : L ∉ ι1 := rs1.fresh hL
      refine ⟨fun i m H2 => i + m = src.items.length ∧ ∃ ι2 S2 acc vs, Ext ι H ι2 H2 ∧ Ext ι1 H1 ι2 H2 ∧ RS K mg ι2 S2 H2 ∧ L ∉ ι2 ∧ H2 L = some (.lst vs) ∧ RDs K ι2 H2 acc vs ∧ acc.length ≤ i ∧
        FinG K mg W (fun ι' H' ds v => RLf K H ι' H' ds v) σ ι H ((lcL t src mc me (wipeS ρ own) (src.items.drop i) S2).bind fun xs S3 => .ok (acc ++ xs) S3) Q, ?_, ?_⟩
      · refine ⟨src.items.length, by omega, ι1, S1, [], [], x1.side hL0, (Ext.refl ι1 H1).side hL, rs1.new0 hL, nL, upd_same, .nil, Nat.le_refl _, ?_⟩
        rw [List.drop_zero]
        simp only [List.nil_append]
        rw [Res.bind_pure]
        exact f
      · rintro i m H2 ⟨him, ι2, S2, acc, vs, x0, x2, rs2, n2, hL2, ra, hal, g⟩
        by_cases hi : i < src.items.length
        · rw [List.drop_eq_getElem_cons hi] at g
          unfold lcL at g
          split at g
          · rename_i hok
            obtain ⟨_, hgo⟩ := wk ι2 S2 H2 x2 rs2 hok i
            obtain ⟨go, hy⟩ := hgo _ (List.getElem?_eq_getElem hi)
            refine .inr ⟨go, fun H' => ∃ ι2 S2 acc vs, Ext ι H ι2 H' ∧ Ext ι1 H1 ι2 H' ∧ RS K mg ι2 S2 H' ∧ L ∉ ι2 ∧ H' L = some (.lst vs) ∧ RDs K ι2 H' acc vs ∧ acc.length ≤ i + 1 ∧
              FinG K mg W (fun ι' H' ds v => RLf K H ι' H' ds v) σ ι H ((lcL t src mc me (wipeS ρ own) (src.items.drop (i + 1)) S2).bind fun xs S3 => .ok (acc ++ xs) S3) Q, fun H' hN => ⟨m - 1, by omega, by omega, hN⟩, fun v H3 hyl => ?_⟩
            obtain ⟨x3, rs3, rd3⟩ := hy v H3 hyl
            cases ha : asg t src.items[i] (wipeS ρ own) with
            | none => rw [ha] at g; exact g.elim
            | some ρ1 =>
              rw [ha] at g
              simp only [Res.bind_assoc] at g
              refine ⟨ι2, _, S2, _, ρ1, rs3, reW.mono (x2.trans x3), rd3, ha, fun σ3 re3 off => ⟨?_, ?_⟩⟩
              · have e := offs_wipe (vs := own) (σ := L2.wipe σ own) (σ' := σ3) ⟨off.1, fun j hj => off.2 j fun z => hj (hsub j z)⟩
                rw [e, wipe_wipe]
              · refine ⟨ι2, ρ1, S2, rs3, re3, FinG.imp (fin_noX (R := fun _ _ b c => b = c) g) fun b H4 ⟨b', S4, ι4, x4, rs4, eb, g4⟩ => ?_⟩
                subst eb
                obtain ⟨hL3, n3⟩ := (x3.stays hL2 n2)
                obtain ⟨hL4, n4⟩ := (x4.stays hL3 n3)
                have xa := (x0.trans x3).trans x4
                have xb := (x2.trans x3).trans x4
                cases b' with
                | false =>
                  simp only [Bool.false_eq_true, if_false] at g4 ⊢
                  exact ⟨ι4, S4, acc, vs, xa, xb, rs4, n4, hL4, (ra.mono x3).mono x4, by omega, g4⟩
                | true =>
                  simp only [if_true] at g4 ⊢
                  simp only [Res.bind_assoc] at g4
                  refine ⟨ι4, ρ1, S4, rs4, re3.mono x4, FinG.imp (fin_noX (R := fun ι H d v => RD K ι H d v) g4) fun y H5 ⟨d, S5, ι5, x5, rs5, rd5, g5⟩ => ?_⟩
                  obtain ⟨hL5, n5⟩ := (x5.stays hL4 n4)
                  have ra5 := ((ra.mono x3).mono x4).mono x5
                  refine ⟨vs, hL5, by rw [← ra.length, sizeLine_eq]; omega, ι5, S5, acc ++ [d], vs ++ [y], (xa.trans x5).side hL0, (xb.trans x5).side hL, rs5.side hL5 n5, n5, upd_same, ?_, by simp; omega, ?_⟩
                  · exact (RDs.monoM (Mo.side hL5) ra5).snoc (RD.monoM (Mo.side hL5) rd5)
                  · have e : ∀ xs : List D, (acc ++ [d]) ++ xs = acc ++ (d :: xs) := fun xs => by simp
                    simp only [e]
                    exact g5
          · exact g.elim
        · rw [List.drop_eq_nil_of_le (by omega)] at g
          unfold lcL at g
          split at g
          · rename_i hok
            obtain ⟨hstop, _⟩ := wk ι2 S2 H2 x2 rs2 hok i
            refine .inl ⟨hstop (by omega), ?_⟩
            have g : FinG K mg W (fun ι' H' ds v => RLf K H ι' H' ds v) σ ι H (.ok (acc ++ []) S2) Q := g
            rw [List.append_nil] at g
            exact g ι2 H2 _ x0 rs2 ⟨L, vs, rfl, hL0, n2, hL2, ra⟩
          · exact g.elim
    · exact f.elim
theorem j_lc {elt tg iter : Expr} {ifs : List Expr} {scope : Scope} {t : Tgt} {mi : M Src} {mc : M Bool} {me : M D} (own : List (Str × Nat)) (hc : X.calm = true) (hN : X.N.Nodup) (hi : JI X W tg iter mi) (ok : BlkOk X.N X.env.scope scope own)
    (hg : ∀ (s : Shared) (H : Hp) (C : Addr) (cl : List (Str × Addr)) (fp : List Addr), JG (X.blk s H scope (compEnvC scope cl C X.env) fp) tg t) (ht : ∀ (s : Shared) (H : Hp) (C : Addr) (cl : List (Str × Addr)) (fp : List Addr), JC (X.blk s H scope (compEnvC scope cl C X.env) fp) noW ifs mc)
    (he : ∀ (s : Shared) (H : Hp) (C : Addr) (cl : List (Str × Addr)) (fp : List Addr), JE (X.blk s H scope (compEnvC scope cl C X.env) fp) noW elt me) (hsub : ∀ j ∈ t.slots, j ∈ own.map (·.2)) (hs : ∀ x, foldedSetIterable iter X.env x = pure x := by intro _; rfl) :
    JL X W (.ListComp elt [⟨tg, iter, ifs, 0⟩] scope pos) (mLc t (own.map (·.2)) mi mc me) :=
  (pe_lc hc hN hi ok hg ht he hs : PE X (.ListComp elt [⟨tg, iter, ifs, 0⟩] scope pos) (tLc (tI X.K X.mg W mi) (tTg X.K X.mg t) (tT X.K X.mg noW mc) (tE X.K X.mg noW me) (own.map (·.2)))).imp fun σ H Q h => lc_fin hsub h
end
end MI

set_option Elab.async false
set_option linter.all false
set_option maxRecDepth 100000
namespace MI
open PySem PySem.Spec PyProof.Rows L2

/-! ### places -/
theorem RDs.atI {K : PySem.W.Frag} {ι : List Addr} {H : Hp} {ds : List D} {vs : List V} {i : Int} {d : D} (r : RDs K ι H ds vs) (h : L2.atI ds i = some d) : ∃ v, L2.atI vs i = some v ∧ RD K ι H d v := by
  unfold L2.atI at h ⊢
  rw [← r.length]
  cases e : ixN ds.length i with
  | none => rw [e] at h; cases h
  | some j =>
    rw [e] at h
    obtain ⟨v, a, b⟩ := r.get (i := j) (d := d) h
    exact ⟨v, a, b⟩
def gIx (x y : D) (S : Store) : Res D := match y with
  | .int i => match x with
    | .str z => if z.length ≤ 16777216 then match L2.atI z.cps.toList i with
        | some c => .ok (.str ⟨#[c]⟩) S
        | none => .no
      else .no
    | x => match seqOf x S with
      | some ds => match L2.atI ds i with
        | some d => .ok d S
        | none => .no
      | none => .no
  | _ => .no
theorem calm_ix : Calm2 gIx := fun d e S c v S' h => by
  unfold gIx at h
  split at h
  · split at h
    · split at h
      · split at h <;> cases h
      · cases h
    · split at h
      · split at h <;> cases h
      · cases h
  · cases h
section
variable {X : Cx} {W : WX} {a b : Expr} {pos : Pos} {ma mb : M D}
theorem i_ix : IxR X (r2 X.K X.mg gIx) := by
  intro value slice pins s σ H x y v u Q I rx ry q hs
  obtain ⟨ι, S, d, e, rs, rd, re, fin⟩ := q
  unfold gIx at fin
  split at fin
  · rename_i i
    rw [re.int_inv] at ry
    split at fin
    · rename_i z
      rw [rd.str_inv] at rx
      split at fin
      · rename_i hz
        split at fin
        · rename_i c hc
          exact ix_str value slice pins s σ H _ _ v u Q I rx ry ⟨z, i, c, rfl, rfl, by rw [sizeLine_eq]; exact hz, hc, fin ι H _ (Ext.refl _ _) rs (.str _)⟩ hs
        · exact fin.elim
      · exact fin.elim
    · split at fin
      · rename_i ds hd
        split at fin
        · rename_i d' hd'
          obtain ⟨p, vs, rfl, rr, hq⟩ := seqOf_v rs rd hd
          obtain ⟨v', hv', rd'⟩ := rr.atI hd'
          rcases hq with hq | ⟨hq, _⟩
          · exact ix_list value slice pins s σ H _ _ v u Q I rx ry ⟨p, vs, i, v', rfl, rfl, hq, hv', fin ι H _ (Ext.refl _ _) rs rd'⟩ hs
          · exact ix_tup value slice pins s σ H _ _ v u Q I rx ry ⟨p, vs, i, v', rfl, rfl, hq, hv', fin ι H _ (Ext.refl _ _) rs rd'⟩ hs
        · exact fin.elim
      · exact fin.elim
  · exact fin.elim
theorem j_ix (ha : JE X W a ma) (hb : JE X W b mb) (hs : PlainIx b := by intro _ _; rfl) : JE X W (.Subscript a b pos) (mOp gIx ma mb) :=
  (pe_ix i_ix ha hb hs).imp fun σ H Q h => by
    obtain ⟨ι, ρ, S, rs, re, f⟩ := tG_seq (R := fun ι H d v => RD X.K ι H d v) (m := ma) (k := fun ρ x S1 => (mb ρ S1).bind fun y S2 => gIx x y S2) h
    refine ⟨ι, ρ, S, rs, re, f.imp fun x H1 ⟨ι1, ρ1, d, S1, rs1, re1, rd1, f1⟩ => ⟨ι1, ρ1, S1, rs1, re1, FinG.imp f1.bind fun y H2 ⟨e, S2, ι2, y2, rs2, rd2, f2⟩ => ?_⟩⟩
    exact ⟨ι2, S2, d, e, rs2, rd1.mono y2, rd2, f2.calm (calm_ix _ _ _)⟩
end
/-! slices -/
def cutL {α : Type} (xs : List α) (lo hi : Option Int) : List α := (xs.drop (HT.sIx xs.length 0 lo)).take (HT.sIx xs.length xs.length hi - HT.sIx xs.length 0 lo)
theorem RDs.cut {K : PySem.W.Frag} {ι : List Addr} {H : Hp} {ds : List D} {vs : List V} {lo hi : Option Int} (r : RDs K ι H ds vs) : RDs K ι H (cutL ds lo hi) (cutV vs lo hi) := by
  have e : cutV vs lo hi = cutL vs lo hi := rfl
  rw [e]
  unfold cutL
  rw [r.length]
  exact (r.drop _).take _
/-- a part of a slice -/
def mPart (m : Option (M D)) : M (Option Int) := match m with
  | none => fun _ S => .ok none S
  | some m => fun ρ S => (m ρ S).bind fun d S1 => match d with
    | .int i => .ok (some i) S1
    | _ => .no
inductive JP (X : Cx) (W : WX) : Option Expr → Option (M D) → Prop
  | none : JP X W none none
  | some {e : Expr} {m : M D} (h : JE X W e m) : JP X W (some e) (some m)
theorem jp_po {X : Cx} {W : WX} {e : Option Expr} {m : Option (M D)} (h : JP X W e m) : PO X e (tG X.K X.mg W (fun _ _ a b => a = b) (mPart m)) := by
  cases h with
  | none =>
    exact ⟨fun pins s σ H Q I ⟨ι, ρ, S, rs, re, f⟩ => po_none.run pins s σ H Q I (f ι H none (Ext.refl _ _) rs rfl)⟩
  | @some e m h =>
    refine ⟨fun pins s σ H Q I q => (po_some h).run pins s σ H Q I ?_⟩
    obtain ⟨ι, ρ, S, rs, re, f⟩ := tG_seq (R := fun ι H d v => RD X.K ι H d v) (m := m) (k := fun ρ d S1 => match d with
      | D.int i => Res.ok (some i) S1
      | _ => .no) q
    refine ⟨ι, ρ, S, rs, re, f.imp fun x H1 ⟨ι1, ρ1, d, S1, rs1, re1, rd1, f1⟩ => ?_⟩
    cases d with
    | int i =>
      rw [rd1.int_inv]
      exact ⟨i, rfl, f1 ι1 H1 _ (Ext.refl _ _) rs1 rfl⟩
    | _ => exact f1.elim
/-- a slice of a list: its items; of a tuple, a text: the value -/
def gSl (x : D) (lo hi : Option Int) (S : Store) : Res D := match x with
  | .tup xs => if HT.sIx xs.length 0 lo = 0 ∧ HT.sIx xs.length xs.length hi = xs.length then .no else .ok (.tup (cutL xs lo hi)) S
  | .str z => if z.length ≤ 16777216 then .ok (.str (cutS z lo hi)) S else .no
  | x => match seqOf x S with
    | some xs => .ok (.ref S.length) (S ++ [.lst (cutL xs lo hi)])
    | none => .no
theorem calm_sl (x : D) (lo hi : Option Int) (S : Store) : ∀ c v S', gSl x lo hi S ≠ .exc c v S' := fun c v S' h => by
  unfold gSl at h
  split at h
  · split at h <;> cases h
  · split at h <;> cases h
  · split at h <;> cases h
def rSlG (K : PySem.W.Frag) (mg : Str → Option Value) : V → Option Int → Option Int → Hp → VK → Prop := fun x lo hi H Q => ∃ ι S d, RS K mg ι S H ∧ RD K ι H d x ∧ FinG K mg noW (fun ι H d v => RD K ι H d v) [] ι H (gSl d lo hi S) Q
def mSlice (m : M D) (lo hi : Option (M D)) : M D := fun ρ S => (m ρ S).bind fun x S1 => (mPart lo ρ S1).bind fun l S2 => (mPart hi ρ S2).bind fun h S3 => gSl x l h S3
section
variable {X : Cx} {W : WX} {e : Expr} {lo hi : Option Expr} {pos p2 : Pos} {m : M D} {ml mh : Option (M D)}
theorem s_slice : SlR X (rSlG X.K X.mg) := by
  intro pins s σ H x v vl vu lo hi sl Q I rx hs pl pu q
  obtain ⟨ι, S, d, rs, rd, f⟩ := q
  unfold gSl at f
  split at f
  · rename_i xs
    obtain ⟨a, vs, rfl, ha, r⟩ := rd.tup_inv
    split at f
    · exact f.elim
    · rename_i hn
      exact sl_tup pins s σ H _ v vl vu lo hi sl Q I rx hs pl pu ⟨a, vs, rfl, ha, by rw [← r.length]; exact hn, fun p hp => fin_tup rs r.cut f hp⟩
  · rename_i z
    rw [rd.str_inv] at rx
    split at f
    · rename_i hz
      exact sl_str pins s σ H _ v vl vu lo hi sl Q I rx hs pl pu ⟨z, rfl, by rw [sizeLine_eq]; exact hz, f ι H _ (Ext.refl _ _) rs (.str _)⟩
    · exact f.elim
  · rename_i hnt _
    split at f
    · rename_i xs hx
      obtain ⟨a, vs, rfl, r, hq⟩ := seqOf_v rs rd hx
      rcases hq with hq | ⟨_, e⟩
      · exact sl_list pins s σ H _ v vl vu lo hi sl Q I rx hs pl pu ⟨a, vs, rfl, hq, fun p hp => fin_lst rs r.cut f hp⟩
      · exact absurd e (hnt xs)
    · exact f.elim
theorem j_slice (he : JE X W e m) (hl : JP X W lo ml) (hu : JP X W hi mh) : JE X W (.Subscript e (.Slice lo hi none p2) pos) (mSlice m ml mh) := (pe_slice s_slice he (jp_po hl) (jp_po hu)).imp fun σ H Q h => by
  obtain ⟨ι, ρ, S, rs, re, f⟩ := tG_seq (R := fun ι H d v => RD X.K ι H d v) (m := m) (k := fun ρ x S1 => (mPart ml ρ S1).bind fun l S2 => (mPart mh ρ S2).bind fun h S3 => gSl x l h S3) h
  refine ⟨ι, ρ, S, rs, re, f.imp fun x H1 ⟨ι1, ρ1, d, S1, rs1, re1, rd1, f1⟩ => ⟨ι1, ρ1, S1, rs1, re1, FinG.imp f1.bind fun l H2 ⟨l', S2, ι2, y2, rs2, el, f2⟩ => ⟨ι2, ρ1, S2, rs2, re1.mono y2, FinG.imp f2.bind fun u H3 ⟨u', S3, ι3, y3, rs3, eu, f3⟩ => ?_⟩⟩⟩
  subst el eu
  exact ⟨ι3, S3, d, rs3, (rd1.mono y2).mono y3, f3.calm (calm_sl _ _ _ _)⟩
end
/-! ### xs[i] = e, xs.append(e) -/
def gSet (o i d : D) (S : Store) : Res Unit := match o, i with
  | .ref a, .int k => match S[a]? with
    | some (.lst xs) => match ixN xs.length k with
      | some j => .ok () (S.set a (.lst (xs.set j d)))
      | none => .no
    | _ => .no
  | _, _ => .no
def sSet (o i e : M D) : MS := fun ρ S => SR.bindR (e ρ S) ρ fun d S1 => SR.bindR (o ρ S1) ρ fun x S2 => SR.bindR (i ρ S2) ρ fun y S3 => match gSet x y d S3 with
  | .ok _ S4 => .next ρ S4
  | _ => .no
def rSetG (K : PySem.W.Frag) (mg : Str → Option Value) : TSet := fun o i v H Q => ∃ ι S x y d S', RS K mg ι S H ∧ RD K ι H x o ∧ RD K ι H y i ∧ RD K ι H d v ∧ gSet x y d S = .ok () S' ∧ ∀ H', Ext ι H ι H' → RS K mg ι S' H' → Q H'
section
variable {X : Cx} {W : WX}
theorem put_lst {K : PySem.W.Frag} {mg : Str → Option Value} {ι : List Addr} {S : Store} {H : Hp} {i : Nat} {p : Addr} {xs : List D} {vs vs' : List V} (rs : RS K mg ι S H) (hp : ι[i]? = some p) (ho : H p = some (.lst vs)) (r : RDs K ι H xs vs') : RS K mg ι (S.set i (.lst xs)) (upd H p (.lst vs')) ∧ Ext ι H ι (upd H p (.lst vs')) := by
  have hk : (∀ x, (HO.lst vs) ≠ .tup x) ∧ (∀ x y, (HO.lst vs) ≠ .frz x y) ∧ ∀ x, (HO.lst vs) ≠ .xd x := ⟨fun _ => nofun, fun _ _ => nofun, fun _ => nofun⟩
  have x : Ext ι H ι (upd H p (.lst vs')) := Ext.put hp ho hk
  exact rs.put hp ho hk ⟨vs', upd_same, r.mono x⟩
theorem set_g : PSet X (rSetG X.K X.mg) := by
  intro pins s σ H o i v ov iv u Q I ro ri rv q
  obtain ⟨ι, S, x, y, d, S', rs, rx, ry, rd, e, q⟩ := q
  unfold gSet at e
  split at e
  · rename_i a k
    split at e
    · rename_i xs hx
      split at e
      · rename_i j hj
        cases e
        obtain ⟨p, rfl, hp⟩ := rx.ref_inv
        obtain ⟨vs, e1, r⟩ := rs.get' hx hp
        rw [ry.int_inv] at ri
        obtain ⟨rs', x'⟩ := put_lst rs hp e1 (r.set rd j)
        exact set_list pins s σ H _ _ v ov iv u Q I ro ri rv ⟨p, vs, k, j, rfl, rfl, e1, by rw [← r.length]; exact hj, q _ x' rs'⟩
      · cases e
    · cases e
  · cases e
theorem js_setI {o i e : Expr} {mo mi me : M D} {pos spos : Pos} (ho : JE X W o mo) (hi : JE X W i mi) (he : JE X W e me)
    (ha : ∀ v, assign (.Subscript o i spos) X.env v = (do
      let ov ← holding [v] (eval o X.env)
      let iv ← holding [v, ov] (eval i X.env)
      standAt spos
      holding [v, ov, iv] (setItem ov iv v)
      release [v, ov, iv] []) := by intro _; rfl)
    (hs : swapsWithSole [.Subscript o i spos] e pos.line X.env = pure false := by rfl) (hw : swappedStores [.Subscript o i spos] e X.env = pure none := by rfl)
    (h1 : (assignEach [.Subscript o i spos] X.env).map (·.2) = [assign (.Subscript o i spos) X.env] := by rfl) : JS X W (.Assign [.Subscript o i spos] e pos) (sSet mo mi me) :=
  (ps_asg he (pg_sub ho hi set_g ha) hs hw h1).imp fun Dn σ H h => by
    obtain ⟨ι, ρ, S, rs, re, f⟩ := tS_seq (R := fun ι H d v => RD X.K ι H d v) (m := me) (k := fun ρ d S1 => SR.bindR (mo ρ S1) ρ fun x S2 => SR.bindR (mi ρ S2) ρ fun y S3 => match gSet x y d S3 with
      | .ok _ S4 => .next ρ S4
      | _ => .no) h
    refine ⟨ι, ρ, S, rs, re, f.imp fun v H1 ⟨ι1, ρ1, d, S1, rs1, re1, rd1, f1⟩ => ⟨ι1, ρ1, S1, rs1, re1, FinG.imp (FinS.bindR re1 f1) fun ov H2 ⟨x, S2, ι2, y2, rs2, rd2, f2⟩ => ⟨ι2, ρ1, S2, rs2, re1.mono y2, FinG.imp (FinS.bindR (re1.mono y2) f2) fun iv H3 ⟨y, S3, ι3, y3, rs3, rd3, f3⟩ => ?_⟩⟩⟩
    cases hg : gSet x y d S3 with
    | ok a S4 =>
      rw [hg] at f3
      exact ⟨ι3, S3, x, y, d, S4, rs3, rd2.mono y3, rd3, (rd1.mono y2).mono y3, hg, fun H' x' rs' => f3 ι3 H' σ x' rs' (((re1.mono y2).mono y3).mono x')⟩
    | exc c v S4 => rw [hg] at f3; exact f3.elim
    | no => rw [hg] at f3; exact f3.elim
def gApp (x : D) (xs : List D) (S : Store) : Res D := match x, xs with
  | .ref a, [d] => match S[a]? with
    | some (.lst ys) => if ys.length < 16777216 then .ok .non (S.set a (.lst (ys ++ [d]))) else .no
    | _ => .no
  | _, _ => .no
/-- a method of a list by its item list -/
def rMt (K : PySem.W.Frag) (mg : Str → Option Value) (g : D → List D → Store → Res D) : V → List V → Hp → VK → Prop := fun x xs H Q => ∃ ι S d ds, RS K mg ι S H ∧ RD K ι H d x ∧ RDs K ι H ds xs ∧ FinG K mg noW (fun ι H d v => RD K ι H d v) [] ι H (g d ds S) Q
theorem m_app : MtR X "list.append" (rMt X.K X.mg gApp) := by
  intro pins s σ H x xs v us Q I rx rxs q
  obtain ⟨ι, S, d, ds, rs, rd, rds, f⟩ := q
  unfold gApp at f
  split at f
  · rename_i a d'
    split at f
    · rename_i ys hy
      split at f
      · rename_i hz
        obtain ⟨p, rfl, hp⟩ := rd.ref_inv
        obtain ⟨v', rfl, r1⟩ := rds.one_inv
        obtain ⟨vs, e1, r⟩ := rs.get' hy hp
        obtain ⟨rs', x'⟩ := put_lst rs hp e1 (r.snoc r1)
        exact mt_append pins s σ H _ _ v us Q I rx rxs ⟨p, vs, v', rfl, rfl, e1, by rw [← r.length, sizeLine_eq]; exact hz, f ι _ _ x' rs' .non⟩
      · exact f.elim
    · exact f.elim
  · exact f.elim
def isLst (d : D) (S : Store) : Bool := match d with
  | .ref i => match S[i]? with
    | some (.lst _) => true
    | _ => false
  | _ => false
/-- o.m(..), o a list -/
def mMt (g : D → List D → Store → Res D) (o : M D) (mes : M (List D)) : M D := fun ρ S => (o ρ S).bind fun x S1 => if isLst x S1 = true then (mes ρ S1).bind fun xs S2 => g x xs S2 else .no
theorem j_mt {name : Str} {id : String} {g : D → List D → Store → Res D} {o e : Expr} {es : List Expr} {apos cpos : Pos} {mo : M D} {mes : M (List D)} (slot : Slot "list" name id) (hty : typeOf (.builtin id) = pure (.type "method_descriptor")) (hm : MtR X id (rMt X.K X.mg g))
    (hcalm : ∀ d ds S c v S', g d ds S ≠ .exc c v S') (ho : JE X W o mo) (ha : JA X W (e :: es) mes)
    (hbase : attributeBase o name X.env (eval o X.env) = eval o X.env := by rfl)
    (hfew : ((backTo cpos (starEach (e :: es) X.env)).all (fun x => !x.1) && (backToKw cpos (keywordEach [] X.env)).all (fun x => x.1.isSome)
      && decide ((e :: es).length + ([] : List Keyword).length + (if ([] : List Keyword).isEmpty then 0 else 1) < 30)) = true := by rfl)
    (hline : (apos.endLine == cpos.line) = true := by rfl) (hs : starEach (e :: es) X.env = (false, eval e X.env) :: starEach es X.env := by rfl) (hplain : (backTo cpos (starEach es X.env)).any (·.1) = false := by rfl) :
    JE X W (.Call (.Attribute o name apos) (e :: es) [] cpos) (mMt g mo mes) :=
  (pe_bm PySem.F.plainAttrs_list slot hty hm ho ha hbase hfew hline hs hplain).imp fun σ H Q h => by
    obtain ⟨ι, ρ, S, rs, re, f⟩ := tG_seq (R := fun ι H d v => RD X.K ι H d v) (m := mo) (k := fun ρ x S1 => if isLst x S1 = true then (mes ρ S1).bind fun xs S2 => g x xs S2 else .no) h
    refine ⟨ι, ρ, S, rs, re, f.imp fun x H1 ⟨ι1, ρ1, d, S1, rs1, re1, rd1, f1⟩ => ?_⟩
    by_cases hl : isLst d S1 = true
    · rw [if_pos hl] at f1
      refine ⟨?_, ι1, ρ1, S1, rs1, re1, FinG.imp f1.bind fun y H2 ⟨e, S2, ι2, y2, rs2, rd2, f2⟩ => ⟨ι2, S2, d, e, rs2, rd1.mono y2, rd2, f2.calm (hcalm _ _ _)⟩⟩
      cases d with
      | ref i =>
        simp only [isLst] at hl
        split at hl
        · rename_i ys hy
          obtain ⟨a, rfl, ha⟩ := rd1.ref_inv
          obtain ⟨vs, e1, r⟩ := rs1.get' hy ha
          exact .inl ⟨rfl, vs, SqL.of e1⟩
        · cases hl
      | _ => simp [isLst] at hl
    · rw [if_neg hl] at f1
      exact f1.elim
theorem calm_app : ∀ d ds S c v S', gApp d ds S ≠ .exc c v S' := fun d ds S c v S' h => by
  unfold gApp at h
  split at h
  · split at h
    · split at h <;> cases h
    · cases h
  · cases h
theorem j_append {o e : Expr} {apos cpos : Pos} {mo me : M D} (ho : JE X W o mo) (he : JE X W e me)
    (hbase : attributeBase o "append" X.env (eval o X.env) = eval o X.env := by rfl)
    (hfew : ((backTo cpos (starEach (e :: []) X.env)).all (fun x => !x.1) && (backToKw cpos (keywordEach [] X.env)).all (fun x => x.1.isSome)
      && decide ((e :: []).length + ([] : List Keyword).length + (if ([] : List Keyword).isEmpty then 0 else 1) < 30)) = true := by rfl)
    (hline : (apos.endLine == cpos.line) = true := by rfl) (hs : starEach (e :: []) X.env = (false, eval e X.env) :: starEach [] X.env := by rfl) (hplain : (backTo cpos (starEach [] X.env)).any (·.1) = false := by rfl) :
    JE X W (.Call (.Attribute o "append" apos) [e] [] cpos) (mMt gApp mo (mCons me mNil)) :=
  j_mt PySem.F.slot_list_append PySem.F.type_list_append m_app calm_app ho (j_cons he j_nil hs) hbase hfew hline hs hplain
end
end MI

set_option Elab.async false
set_option linter.all false
set_option maxRecDepth 100000
namespace MI
open PySem PySem.Spec PyProof.Rows L2

/-! ### isinstance with a built-in class -/
def tyName (d : D) (S : Store) : Option String := match d with
  | .non => some "NoneType"
  | .bl _ => some "bool"
  | .int _ => some "int"
  | .str _ => some "str"
  | .tup _ => some "tuple"
  | .fro _ => some "list"
  | .ref i => match S[i]? with
    | some (.lst _) => some "list"
    | some (.dct _) => some "dict"
    | _ => none
def isTy (t T : String) : Bool := t == T || (t == "bool" && T == "int")
def gIsTy (T : String) (d : D) (S : Store) : Res D := match tyName d S with
  | some t => .ok (.bl (isTy t T)) S
  | none => .no
theorem calm_isTy {T : String} : Calm1 (gIsTy T) := fun d S c v S' h => by unfold gIsTy at h; split at h <;> cases h
def tyNames : List String := ["NoneType", "bool", "int", "str", "tuple", "list", "dict"]
theorem tyName_mem {d : D} {S : Store} {t : String} (h : tyName d S = some t) : t ∈ tyNames := by
  cases d with
  | ref i =>
    simp only [tyName] at h
    split at h <;> simp at h <;> subst h <;> decide
  | _ => simp only [tyName, Option.some.injEq] at h; subst h; decide
theorem tyName_v {K : PySem.W.Frag} {mg : Str → Option Value} {ι : List Addr} {S : Store} {H : Hp} {d : D} {v : V} {t : String} (rs : RS K mg ι S H) (rd : RD K ι H d v) (h : tyName d S = some t) : TyX K H v (.type t) := by
  cases d with
  | non => simp only [tyName, Option.some.injEq] at h; subst h; rw [rd.non_inv]; exact .base .non
  | bl b => simp only [tyName, Option.some.injEq] at h; subst h; rw [rd.bl_inv]; exact .base (.bl b)
  | int i => simp only [tyName, Option.some.injEq] at h; subst h; rw [rd.int_inv]; exact .base (.int i)
  | str x => simp only [tyName, Option.some.injEq] at h; subst h; rw [rd.str_inv]; exact .base (.str x)
  | tup xs =>
    simp only [tyName, Option.some.injEq] at h; subst h
    obtain ⟨a, vs, rfl, ha, _⟩ := rd.tup_inv
    rcases ha with (ha | ⟨o, ha⟩) | ⟨o, its, n, hk, hc, _⟩
    · exact .base (.tup ha)
    · exact .fTuple ha
    · exact .kTuple hk hc
  | fro xs =>
    simp only [tyName, Option.some.injEq] at h; subst h
    obtain ⟨a, vs, rfl, ha, _⟩ := rd.fro_inv
    rcases ha with ⟨o, ha⟩ | ⟨o, its, n, hk, hc, _⟩
    · exact .base (.frz ha)
    · exact .kList hk hc
  | ref i =>
    obtain ⟨a, rfl, ha⟩ := rd.ref_inv
    simp only [tyName] at h
    split at h
    · rename_i xs hx
      simp at h; subst h
      obtain ⟨vs, e, _⟩ := rs.get' hx ha
      exact .base (.lst e)
    · rename_i xs hx
      simp at h; subst h
      obtain ⟨vs, e, _⟩ := rs.get' hx ha
      exact .base (.dK e)
    · cases h
theorem j_isTy {X : Cx} {W : WX} {e : Expr} {m : M D} {T : Str} {Ts : String} {p1 p2 pos : Pos} (hm : X.mg "isinstance" = none) (hT : X.mg T = none) (hv : bootBuiltins T = some (.type Ts)) (hk : ∀ t ∈ tyNames, kitB t Ts = some (isTy t Ts)) (ha : JE X W e m) (hg : Gl X "isinstance" := by rfl) (hgT : Gl X T := by rfl)
    (hnT : T ≠ "__name__" := by decide) (hdT : (T == ("__debug__" : Str)) = false := by decide) (hb : bootBuiltins "isinstance" = some (.builtin "isinstance") := by decide +kernel)
    (he : starEach (e :: [.Name T p2]) X.env = (false, eval e X.env) :: starEach [.Name T p2] X.env := by rfl) (he2 : starEach [.Name T p2] X.env = (false, eval (.Name T p2) X.env) :: starEach [] X.env := by rfl) (hpl : (backTo pos (starEach [.Name T p2] X.env)).any (·.1) = false := by rfl) :
    JE X W (.Call (.Name "isinstance" p1) [e, .Name T p2] [] pos) (mUn (gIsTy Ts) m) :=
  (pe_callB call_isi hg hm hb (pa_cons ha (pa_cons (pe_bltn (v := V.ty Ts) hgT hT hv rfl hnT hdT) pa_nil he2) he) (by decide) (by decide) he hpl).imp fun σ H Q h => by
    obtain ⟨ι, ρ, S, rs, re, f⟩ := tG_seq (R := fun ι H d v => RD X.K ι H d v) (m := m) (k := fun ρ x S1 => gIsTy Ts x S1) h
    refine ⟨ι, ρ, S, rs, re, f.imp fun x H1 ⟨ι1, ρ1, d, S1, rs1, re1, rd1, f1⟩ => ?_⟩
    unfold gIsTy at f1
    split at f1
    · rename_i t ht
      exact ⟨x, V.ty Ts, .type t, .type Ts, isTy t Ts, rfl, .ty Ts, tyName_v rs1 rd1 ht, kit_ty (hk t (tyName_mem ht)), f1 ι1 H1 _ (Ext.refl _ _) rs1 (.bl _)⟩
    · exact f1.elim

/-! ### what a def leaves of the store -/
mutual
def below (n : Nat) : D → Bool
  | .tup xs => belows n xs
  | .fro xs => belows n xs
  | .ref i => decide (i < n)
  | _ => true
def belows (n : Nat) : List D → Bool
  | [] => true
  | x :: xs => below n x && belows n xs
end
def cellBelow (n : Nat) : Cell → Bool
  | .lst xs => belows n xs
  | .dct kvs => belows n (kvs.map (·.2))
  | .exc _ v => below n v
def Cell.beq : Cell → Cell → Bool
  | .lst xs, .lst ys => D.beqs xs ys
  | .dct xs, .dct ys => decide (xs.map (·.1) = ys.map (·.1)) && D.beqs (xs.map (·.2)) (ys.map (·.2))
  | .exc c v, .exc c' v' => decide (c = c') && D.beq v v'
  | _, _ => false
theorem Cell.beq_refl (c : Cell) : Cell.beq c c = true := by
  cases c <;> simp [Cell.beq, D.beqs_refl, D.beq_refl]
theorem pairs_eq {α β : Type} : ∀ {xs ys : List (α × β)}, xs.map (·.1) = ys.map (·.1) → xs.map (·.2) = ys.map (·.2) → xs = ys
  | [], [], _, _ => rfl
  | [], _ :: _, h, _ => by simp at h
  | _ :: _, [], h, _ => by simp at h
  | (a, b) :: xs, (a', b') :: ys, h1, h2 => by
    simp only [List.map_cons, List.cons.injEq] at h1 h2
    rw [h1.1, h2.1, pairs_eq h1.2 h2.2]
theorem Cell.beq_eq {c c' : Cell} (h : Cell.beq c c' = true) : c = c' := by
  cases c <;> cases c' <;> simp only [Cell.beq, Bool.and_eq_true, decide_eq_true_eq, Bool.false_eq_true] at h
  · rw [D.beqs_eq _ _ h]
  · rw [pairs_eq h.1 (D.beqs_eq _ _ h.2)]
  · rw [h.1, D.beq_eq _ _ h.2]
/-- the cells of S stand in S', or hold nothing of what is new -/
def keeps (n : Nat) : Store → Store → Bool
  | [], _ => true
  | c :: r, c' :: r' => (Cell.beq c c' || cellBelow n c') && keeps n r r'
  | _ :: _, [] => false
theorem keeps_get {n : Nat} : ∀ {S S' : Store} {i : Nat} {c c' : Cell}, keeps n S S' = true → S[i]? = some c → S'[i]? = some c' → c' = c ∨ cellBelow n c' = true
  | [], _, _, _, _, _, h, _ => by simp at h
  | _ :: _, [], _, _, _, h, _, _ => by simp [keeps] at h
  | c0 :: r, c1 :: r', 0, c, c', h, e1, e2 => by
    simp at e1 e2; subst e1; subst e2
    simp only [keeps, Bool.and_eq_true, Bool.or_eq_true] at h
    exact h.1.imp (fun z => (Cell.beq_eq z).symm) fun z => z
  | c0 :: r, c1 :: r', i + 1, c, c', h, e1, e2 => by
    simp only [keeps, Bool.and_eq_true] at h
    exact keeps_get h.2 (by simpa using e1) (by simpa using e2)
theorem keeps_len {n : Nat} : ∀ {S S' : Store}, keeps n S S' = true → S.length ≤ S'.length
  | [], _, _ => Nat.zero_le _
  | _ :: _, [], h => by simp [keeps] at h
  | c :: r, c' :: r', h => by
    simp only [keeps, Bool.and_eq_true] at h
    exact Nat.succ_le_succ (keeps_len h.2)
/-- a call's result: where the value holds nothing new, the new cells go; where it is one new list of old things, it alone stays -/
def retOf (S : Store) (d : D) (S' : Store) : Res D :=
  if keeps S.length S S' = true then
    if below S.length d = true then .ok d (S'.take S.length)
    else match d with
      | .ref i => match S'[i]? with
        | some (.lst xs) => if belows S.length xs = true then .ok (.ref S.length) (S'.take S.length ++ [.lst xs]) else .ok d S'
        | _ => .ok d S'
      | _ => .ok d S'
  else .ok d S'
def excOf (S : Store) (c : Str) (d : D) (S' : Store) : Res D :=
  if keeps S.length S S' = true ∧ below S.length d = true then .exc c d (S'.take S.length) else .exc c d S'
mutual
theorem RD.back {K : PySem.W.Frag} {ι t : List Addr} {H : Hp} : ∀ {d : D} {v : V}, RD K (ι ++ t) H d v → below ι.length d = true → RD K ι H d v
  | _, _, .non, _ => .non
  | _, _, .bl b, _ => .bl b
  | _, _, .int i, _ => .int i
  | _, _, .str z, _ => .str z
  | _, _, .tup h r, b => .tup h (RDs.back r (by simpa [below] using b))
  | .ref i, _, .ref h, b => .ref (by
    have hi : i < ι.length := by simpa [below] using b
    rw [List.getElem?_append_left hi] at h; exact h)
  | _, _, .fro h r, b => .fro h (RDs.back r (by simpa [below] using b))
theorem RDs.back {K : PySem.W.Frag} {ι t : List Addr} {H : Hp} : ∀ {ds : List D} {vs : List V}, RDs K (ι ++ t) H ds vs → belows ι.length ds = true → RDs K ι H ds vs
  | _, _, .nil, _ => .nil
  | _, _, .cons h r, b => by
    simp only [belows, Bool.and_eq_true] at b
    exact .cons (RD.back h b.1) (RDs.back r b.2)
end
mutual
theorem RD.isBelow {K : PySem.W.Frag} {ι : List Addr} {H : Hp} : ∀ {d : D} {v : V}, RD K ι H d v → below ι.length d = true
  | _, _, .non => by simp [below]
  | _, _, .bl b => by simp [below]
  | _, _, .int i => by simp [below]
  | _, _, .str z => by simp [below]
  | _, _, .tup h r => by simp only [below]; exact RDs.isBelow r
  | _, _, .ref h => by simp only [below, decide_eq_true_eq]; exact (List.getElem?_eq_some_iff.mp h).1
  | _, _, .fro h r => by simp only [below]; exact RDs.isBelow r
theorem RDs.isBelow {K : PySem.W.Frag} {ι : List Addr} {H : Hp} : ∀ {ds : List D} {vs : List V}, RDs K ι H ds vs → belows ι.length ds = true
  | _, _, .nil => by simp [belows]
  | _, _, .cons h r => by simp only [belows, RD.isBelow h, RDs.isBelow r, Bool.and_true]
end
theorem RKV.isBelow {K : PySem.W.Frag} {ι : List Addr} {H : Hp} : ∀ {l : List (Key × D)} {l' : List (Key × V)}, RKV K ι H l l' → belows ι.length (l.map (·.2)) = true
  | _, _, .nil => by simp [belows]
  | _, _, .cons h r => by simp only [List.map_cons, belows, RD.isBelow h.2, RKV.isBelow r, Bool.and_true]
theorem RKV.back {K : PySem.W.Frag} {ι t : List Addr} {H : Hp} : ∀ {l : List (Key × D)} {l' : List (Key × V)}, RKV K (ι ++ t) H l l' → belows ι.length (l.map (·.2)) = true → RKV K ι H l l'
  | _, _, .nil, _ => .nil
  | _, _, .cons h r, b => by
    simp only [List.map_cons, belows, Bool.and_eq_true] at b
    exact .cons ⟨h.1, h.2.back b.1⟩ (RKV.back r b.2)
theorem CellOk.isBelow {K : PySem.W.Frag} {mg : Str → Option Value} {ι : List Addr} {H : Hp} {a : Addr} {c : Cell} (h : CellOk K mg ι H a c) : cellBelow ι.length c = true := by
  cases c with
  | lst xs => obtain ⟨_, _, r⟩ := h; exact r.isBelow
  | dct kvs => obtain ⟨_, _, r⟩ := h; exact RKV.isBelow r
  | exc c v => obtain ⟨_, _, _, _, _, _, _, _, r⟩ := h; exact r.isBelow
theorem CellOk.back {K : PySem.W.Frag} {mg : Str → Option Value} {ι t : List Addr} {H : Hp} {a : Addr} {c : Cell} (h : CellOk K mg (ι ++ t) H a c) (b : cellBelow ι.length c = true) : CellOk K mg ι H a c := by
  cases c with
  | lst xs => obtain ⟨vs, e, r⟩ := h; exact ⟨vs, e, r.back b⟩
  | dct kvs => obtain ⟨vs, e, r⟩ := h; exact ⟨vs, e, RKV.back r b⟩
  | exc c v => obtain ⟨C, dd, fs, u, e1, e2, e3, e4, r⟩ := h; exact ⟨C, dd, fs, u, e1, e2, e3, e4, r.back b⟩
theorem Ext.back {ι t : List Addr} {H H' : Hp} (x : Ext ι H (ι ++ t) H') : Ext ι H ι H' := ⟨⟨[], by simp⟩, fun _ h => .inl h, x.keep, x.tups, x.frzs⟩
theorem RS.back {K : PySem.W.Frag} {mg : Str → Option Value} {ι t : List Addr} {S S' : Store} {H H' : Hp} (r0 : RS K mg ι S H) (r : RS K mg (ι ++ t) S' H') (k : keeps S.length S S' = true) : RS K mg ι (S'.take S.length) H' := by
  have hl := keeps_len k
  refine ⟨by rw [List.length_take, Nat.min_eq_left hl, r0.len], (List.nodup_append.mp r.nd).1, fun i c a e1 e2 => ?_⟩
  have hi : i < S.length := by rw [r0.len]; exact (List.getElem?_eq_some_iff.mp e2).1
  rw [List.getElem?_take_of_lt hi] at e1
  have ok := r.at_ i c a e1 (by rw [List.getElem?_append_left (by rw [← r0.len]; exact hi)]; exact e2)
  have ok0 := r0.at_ i S[i] a (List.getElem?_eq_getElem hi) e2
  refine ok.back ?_
  rcases keeps_get k (List.getElem?_eq_getElem hi) e1 with z | z
  · rw [z]; exact ok0.isBelow
  · rw [← r0.len]; exact z
theorem fin_ret {K : PySem.W.Frag} {mg : Str → Option Value} {W : WX} {σ : L2.St} {ι : List Addr} {S S' : Store} {H : Hp} {d : D} {Q : VK} (rs : RS K mg ι S H) (h : FinG K mg W (fun ι H d v => RD K ι H d v) σ ι H (retOf S d S') Q) :
    FinG K mg W (fun ι H d v => RD K ι H d v) σ ι H (.ok d S') Q := by
  unfold retOf at h
  split at h
  · rename_i k
    split at h
    · rename_i b
      intro ι' H' v x rs' rd
      obtain ⟨t, e⟩ := x.pre
      subst e
      exact h ι H' v x.back (rs.back rs' k) (rd.back (by rw [← rs.len]; exact b))
    · rename_i hnb
      split at h
      · rename_i i
        split at h
        · rename_i xs hx
          split at h
          · rename_i b
            intro ι' H' v x rs' rd
            obtain ⟨t, e⟩ := x.pre
            subst e
            obtain ⟨a, rfl, ha⟩ := rd.ref_inv
            obtain ⟨vs, e1, r⟩ := rs'.get' hx ha
            have hni : ¬ i < ι.length := by
              intro z
              apply hnb
              simp only [below, decide_eq_true_eq]
              rw [rs.len]; exact z
            have na : a ∉ ι := fun z => by
              obtain ⟨j, hj, e⟩ := List.getElem_of_mem z
              have := nd_ix rs'.nd (x := a) (i := j) (j := i) (by rw [List.getElem?_append_left hj, List.getElem?_eq_getElem hj, e]) ha
              omega
            have r1 := rs.back rs' k
            refine h (ι ++ [a]) H' _ ⟨⟨[a], rfl⟩, fun b hb => ?_, x.keep, x.tups, x.frzs⟩ (r1.adopt na ⟨vs, e1, (r.back (by rw [← rs.len]; exact b)).more _⟩) (.ref ?_)
            · rcases List.mem_append.mp hb with z | z
              · exact .inl z
              · have e : b = a := by simpa using z
                rw [e]
                exact x.new a (List.mem_of_getElem? ha)
            · rw [rs.len, List.getElem?_append_right (Nat.le_refl _), Nat.sub_self]; rfl
          · exact h
        · exact h
      · exact h
  · exact h
theorem fin_exc {K : PySem.W.Frag} {mg : Str → Option Value} {W : WX} {σ : L2.St} {ι : List Addr} {S S' : Store} {H : Hp} {c : Str} {d : D} {Q : VK} (rs : RS K mg ι S H) (h : FinG K mg W (fun ι H d v => RD K ι H d v) σ ι H (excOf S c d S') Q) :
    FinG K mg W (fun ι H d v => RD K ι H d v) σ ι H (.exc c d S') Q := by
  unfold excOf at h
  split at h
  · rename_i b
    intro ι' H' C dd fs u x rs' e1 e2 e3 rd
    obtain ⟨t, e⟩ := x.pre
    subst e
    exact h ι H' C dd fs u x.back (rs.back rs' b.1) e1 e2 e3 (rd.back (by rw [← rs.len]; exact b.2))
  · exact h

/-! ### a def -/
/-- n slots, of which the arguments are the first -/
def fnOf (n : Nat) (body : MS) (ds : List D) (S : Store) : Res D := match body (ds.map some ++ List.replicate (n - ds.length) none) S with
  | .ret d S' => retOf S d S'
  | .next _ S' => retOf S .non S'
  | .exc c v _ S' => excOf S c v S'
  | _ => .no
def spF (K : PySem.W.Frag) (mg : Str → Option Value) (n : Nat) (f : List D → Store → Res D) : Sp := fun vs H Q E => vs.length = n ∧ ∃ ι S ds, RS K mg ι S H ∧ RDs K ι H ds vs ∧ FinG K mg (fun c d _ H => E c d H) (fun ι H d v => RD K ι H d v) [] ι H (f ds S) Q
theorem RE.start {K : PySem.W.Frag} {ι : List Addr} {H : Hp} {ds : List D} {vs : List V} {N : List Str} (r : RDs K ι H ds vs) : RE K ι H (ds.map some ++ List.replicate (N.length - ds.length) none) (L2.start N vs) := by
  have hl := r.length
  refine ⟨by unfold L2.start; simp [hl], fun i d e => ?_⟩
  unfold L2.start
  by_cases hi : i < ds.length
  · rw [List.getElem?_append_left (by simpa using hi), List.getElem?_map] at e
    rw [List.getElem?_append_left (by simpa [← hl] using hi), List.getElem?_map]
    cases e1 : ds[i]? with
    | none => rw [e1] at e; cases e
    | some d' =>
      rw [e1] at e
      cases e
      obtain ⟨v, hv, rd⟩ := r.get e1
      exact ⟨v, by rw [hv]; rfl, rd⟩
  · rw [List.getElem?_append_right (by simpa using hi), List.getElem?_replicate] at e
    split at e <;> cases e
/-- a def's promise where no repr is under way -/
structure FnG (P : Program) (w : World) (K : PySem.W.Frag) (mg : Str → Option Value) (base : Heap) (k : Nat) (f : Addr) (fd : FuncData) (ps : List Str) (sp : Sp) : Prop where
  len : ∀ vs H Q E, sp vs H Q E → vs.length = ps.length
  run : ∀ (A : Around) (outer : List PySem.Env) (s : Shared) (H : Hp) (args : Args) (us : List Value) (vs : List V) (Q : VK) (E : XK), Room k A → A.guards = some [] → Env0 P w K mg base A outer s H → BindsTo s fd args (ps.zip us) → Vals vs us → sp vs H Q E →
    codeAny (model P w) A (.call (.ref f) args) (CR (L2.CX P w) outer P w H s Q E) s
theorem FnG.mono {P : Program} {w : World} {K : PySem.W.Frag} {mg : Str → Option Value} {base : Heap} {j k : Nat} {f : Addr} {fd : FuncData} {ps : List Str} {sp : Sp} (F : FnG P w K mg base j f fd ps sp) (h : j ≤ k) : FnG P w K mg base k f fd ps sp :=
  ⟨F.len, fun A outer s H args us vs Q E hr => F.run A outer s H args us vs Q E (hr.mono h)⟩
/-- THE RULE for a def -/
theorem fn_ok {P : Program} {w : World} {K : PySem.W.Frag} {mg : Str → Option Value} {base : Heap} {x qual : Str} {st : Stmt} {f : Addr} {fd : FuncData} {N ps : List Str} {k : Nat} {body : MS} (F : Fun K x qual st f fd) (S : FnScope N ps (defScope st))
    (hbody : ∀ (cdv : Value) (A : Around) (outer : List PySem.Env) (s : Shared) (H : Hp) (E : XK), Room k (A.deeper (envOfC qual (defScope st) s.heap.objs.size f cdv)) → (A.deeper (envOfC qual (defScope st) s.heap.objs.size f cdv)).guards = some [] →
      Takes (cxOf (L2.CX P w) P w K mg base N qual (defScope st) f cdv A outer s H E) (fun c d _ H => E c d H) →
      JSs (cxOf (L2.CX P w) P w K mg base N qual (defScope st) f cdv A outer s H E) (fun c d _ H => E c d H) (defBody st) body) : FnG P w K mg base (k + 1) f fd ps (spF K mg ps.length (fnOf N.length body)) := by
  obtain ⟨oc, od, kV, doc, pm, an, cdv, ct, osl, rfl, lk, hcd⟩ := F.ex
  refine ⟨fun vs H Q E h => h.1, fun A outer s H args us vs Q E room grd env0 binds rv want => ?_⟩
  have lenV := want.1
  have inK : K.In s.heap := env0.mod.kin.keeps fun b o e => (env0.bs b o e).1
  have lim : s.heap.NoLimit := env0.mod.nolimit.keeps fun b o e => (env0.bs b o e).1
  have kinds : ∀ y ∈ ps.zip us, (defScope st).names.lookup y.1 = some .local ∨ ((defScope st).names.lookup y.1 = some .cell ∧ ((cellsFrom (s.heap.objs.size + 1) (defScope st).names []).lookup y.1).isSome = true) := fun ⟨n, v⟩ hy =>
    (S.par n (List.of_mem_zip hy).1).imp (fun q => q) fun q => ⟨q, PySem.W.cellsFrom_some _ _ _ (.inl q)⟩
  refine codeAny_call_function room.depth (inK _ _ lk) rfl S.co S.gen rfl (PySem.W.codeRec_of inK hcd) (binds _ _ _ _ ?_)
  refine wpAny_newFunctionEnv_cells S.kind kinds fun env he s1 made => ?_
  subst he
  refine ⟨lim.keeps made.toInCall.keep, codeAny_func ?_⟩
  have I0 : Inv (cxOf (L2.CX P w) P w K mg base N qual (defScope st) f cdv A outer s H E) [] (L2.start N vs) H s1 := inv_start S room.hd env0 lenV rv made
  have body1 := hbody cdv A outer s H E (room.deeper _) grd (takes_of rfl rfl rfl rfl)
  obtain ⟨_, ι, St, ds, rs, rd, fin⟩ := want
  have reading : tS K mg (fun c d _ H => E c d H) body { nx := fun _ H' => Q .non H', rt := Q } (L2.start N vs) H := by
    refine ⟨ι, _, St, rs, RE.start (N := N) rd, ?_⟩
    unfold fnOf at fin
    cases hb : body (ds.map some ++ List.replicate (N.length - ds.length) none) St with
    | ret d S' => rw [hb] at fin; exact fun ι' H' v => fin_ret rs fin ι' H' v
    | next ρ S' => rw [hb] at fin; exact fun ι' H' σ' x' rs' re' => fin_ret rs fin ι' H' .non x' rs' .non
    | exc c v ρ S' => rw [hb] at fin; exact fun ι' H' σ' C dd fs u x' rs' re' => fin_exc rs fin ι' H' C dd fs u x' rs'
    | brk ρ S' => rw [hb] at fin; exact fin.elim
    | cont ρ S' => rw [hb] at fin; exact fin.elim
    | no => rw [hb] at fin; exact fin.elim
  refine wpAny_mono (body1.run [] s1 (L2.start N vs) H _ I0 reading) (fun fl s' hs => ?_) fun e s' hs => hs
  cases fl with
  | ret u => obtain ⟨v, σ', H', J, rv, q⟩ := hs; exact ⟨v, H', J.os, J.bare, J.base, J.hok, rv, q⟩
  | next => obtain ⟨σ', H', J, q⟩ := hs; exact ⟨.non, H', J.os, J.bare, J.base, J.hok, rfl, q⟩
  | brk => obtain ⟨_, _, _, q⟩ := hs; exact False.elim q
  | cont => obtain ⟨_, _, _, q⟩ := hs; exact False.elim q
/-- a weaker function's promise -/
theorem FnG.imp {P : Program} {w : World} {K : PySem.W.Frag} {mg : Str → Option Value} {base : Heap} {k : Nat} {f : Addr} {fd : FuncData} {ps : List Str} {sp sp' : Sp} (F : FnG P w K mg base k f fd ps sp) (h : ∀ vs H Q E, sp' vs H Q E → sp vs H Q E) : FnG P w K mg base k f fd ps sp' :=
  ⟨fun vs H Q E q => F.len vs H Q E (h _ _ _ _ q), fun A outer s H args us vs Q E hr hg he hb hv hs => F.run A outer s H args us vs Q E hr hg he hb hv (h _ _ _ _ hs)⟩
/-- f(e, ..) -/
theorem j_call {X : Cx} {W : WX} {x : Str} {p pos : Pos} {e : Expr} {es : List Expr} {mes : M (List D)} {k n : Nat} {f : Addr} {fd : FuncData} {ps : List Str} {g : List D → Store → Res D} (tk : Takes X W) (F : FnG X.prog X.w X.K X.mg X.base k f fd ps (spF X.K X.mg n g)) (hr : Room k X.A) (hG : X.A.guards = some []) (hm : X.mg x = some (.ref f)) (hk : PySem.W.keepIn X.K (.ref f) = true) (hb : Binds X.K fd ps [])
    (ha : JA X W (e :: es) mes) (hlen : ∀ ρ S ds S', mes ρ S = .ok ds S' → ds.length = n) (hg : Gl X x := by rfl) (hdb : (x == ("__debug__" : Str)) = false := by decide) (he : starEach (e :: es) X.env = (false, eval e X.env) :: starEach es X.env := by rfl) (hpl : (backTo pos (starEach es X.env)).any (·.1) = false := by rfl) :
    JE X W (.Call (.Name x p) (e :: es) [] pos) (mApp g mes) := by
  refine ⟨fun pins s σ H Q I want => ?_⟩
  obtain ⟨ι, ρ, S, rs, re, fin⟩ := want
  refine wpAny_Call_Name_kw (ld_glob I hg hm ?_ hdb)
  refine PySem.W.callWith_K (h₀ := X.base) I.ok.mod.kin hk (thn (ha.run pos pins s σ H (fun vs H1 => spF X.K X.mg n g vs H1 Q (WE W σ)) I ⟨ι, ρ, S, rs, re, ?_⟩) fun us s1 ⟨vs, H1, I1, rv, want1⟩ => ⟨I1.kIn, ?_⟩) he hpl
  · unfold mApp at fin
    cases hm2 : mes ρ S with
    | ok ds S1 =>
      rw [hm2] at fin
      intro ι' H' vs x' rs' rd
      refine ⟨by rw [← rd.length]; exact hlen _ _ _ _ hm2, ι', S1, ds, rs', rd, ?_⟩
      have fin : FinG X.K X.mg W (fun ι H d v => RD X.K ι H d v) σ ι' H' (g ds S1) Q := FinG.weak x' fin
      cases hg2 : g ds S1 with
      | ok d S2 => rw [hg2] at fin; exact fin
      | exc c d S2 => rw [hg2] at fin; exact fin
      | no => rw [hg2] at fin; exact fin
    | exc c v S1 => rw [hm2] at fin; exact fin
    | no => rw [hm2] at fin; exact fin
  · have hl : us.length = ps.length := by rw [← rv.length]; exact F.len _ _ _ _ want1
    have bd := hb s1 us I1.kIn (by rw [List.append_nil]; exact hl)
    rw [List.append_nil] at bd
    refine wpAny_call (codeAny_mono (F.run X.A X.stack s1 H1 ⟨us, []⟩ us vs Q (WE W σ) hr hG I1.env0 bd rv want1) fun r s' hq => ?_)
    cases r with
    | error e => exact passAt tk σ pins H1 s1 e s' I1 hq
    | ok fl =>
      cases fl with
      | ret u => exact I1.after hq
      | next => exact False.elim hq
      | brk => exact False.elim hq
      | cont => exact False.elim hq
theorem len_nil : ∀ ρ S ds S', mNil ρ S = .ok ds S' → ds.length = 0 := fun ρ S ds S' h => by
  have : Res.ok [] S = Res.ok ds S' := h
  cases this
  rfl
theorem len_cons {a : M D} {r : M (List D)} {n : Nat} (h : ∀ ρ S ds S', r ρ S = .ok ds S' → ds.length = n) : ∀ ρ S ds S', mCons a r ρ S = .ok ds S' → ds.length = n + 1 := fun ρ S ds S' e => by
  unfold mCons at e
  cases ha : a ρ S with
  | ok x S1 =>
    rw [ha] at e
    have e : (r ρ S1).bind (fun xs S2 => .ok (x :: xs) S2) = .ok ds S' := e
    cases hr : r ρ S1 with
    | ok xs S2 =>
      rw [hr] at e
      have e : Res.ok (x :: xs) S2 = Res.ok ds S' := e
      cases e
      rw [List.length_cons, h _ _ _ _ hr]
    | exc c v S2 => rw [hr] at e; cases e
    | no => rw [hr] at e; cases e
  | exc c v S1 => rw [ha] at e; cases e
  | no => rw [ha] at e; cases e
end MI

set_option Elab.async false
set_option linter.all false
set_option maxRecDepth 100000
set_option maxHeartbeats 4000000
namespace MI
open PySem PySem.Spec PyProof.Rows L2

/-! ### own errors: what the written part says of a class -/
structure ErrC (K : PySem.W.Frag) (mg : Str → Option Value) (c : Str) (C fI : Addr) : Prop where
  gC : mg c = some (.ref C)
  ox : OexC K C
  iC : PySem.W.findIn K (.ref C) "__init__" = some (some (.ref fI))
  ex : ExcC K C
  noV : PySem.W.findIn K (.ref C) "value" = some none
theorem ErrC.xf {K : PySem.W.Frag} {mg : Str → Option Value} {c : Str} {C fI : Addr} (T : ErrC K mg c C fI) : XfC K C := ⟨T.ex.hg, T.ex.hk, T.ex.hs, T.ex.hd⟩
theorem ErrC.raises {X : Cx} {c : Str} {C fI : Addr} (T : ErrC X.K X.mg c C fI) : Raises X (.ref C) := raises_own T.ox.exC T.ox.tyC

/-! #### the class of an exception that has a dict -/
section
open PySem.W PySem.Calls
variable {prog : Program} {w : World} {A : Around} {E : Value → Shared → Prop} {s : Shared} {K : Frag} {x C : Addr} {ob : Obj} {od : Option Obj}
theorem find_cls (T : ExcC K C) : findObj K C od "__class__" = some (.bind (.builtin "getset_descriptor.__get__") (.builtin "object.__class__")) := by
  obtain ⟨cd, hc, _⟩ := any_some T.hd
  unfold findObj
  rw [hc, Option.bind_some, T.ha, Option.bind_some]
  simp [T.hn, T.ht]
theorem cls_attr {Q : Option Value → Shared → Prop} (T : ExcC K C) (X : K.In s.heap) (I : InstAt s.heap x ob C od) (q : Q (some (.ref C)) { s with toks := s.toks + 1 }) : wpAny (model prog w) A (getAttr? (.ref x) "__class__") Q E s := by
  obtain ⟨hp, g, dr, tk, os⟩ := s
  have Lt := I.type (M := model prog w)
  have La := looks_findIn (M := model prog w) X T.hg
  have Lb := looks_findIn (M := model prog w) X T.hk
  have Lc := looks_find (M := model prog w) X I (find_cls T)
  have Ls : Looks (model prog w) hp (isInstance (.ref x) (.type "BaseException")) true := Lt.andThen (looks_subIn X T.hs)
  have n1 : (Value.builtin "BaseException.__getattribute__" == Value.builtin "object.__getattribute__") = false := by decide +kernel
  have n2 : (onTheHeap (Value.ref C) && Value.builtin "BaseException.__getattribute__" == Value.builtin "object.__getattribute__") = false := by rw [n1]; rfl
  have n3 : (false && onTheHeap (Value.builtin "BaseException.__getattribute__")) = false := rfl
  unfold getAttr? getAttrBy? getAttrBy
  refine wpAny_bind (wpAny_mkText (wpAny_bind (wpAny_attempt (wpAny_holding (wpAny_bind (Lt.at (wpAny_bind (La.at ?_))))))))
  show wpAny _ _ (if (onTheHeap (Value.ref C) && Value.builtin "BaseException.__getattribute__" == Value.builtin "object.__getattribute__") = true then _ else _) _ _ _
  rw [n2, if_neg Bool.false_ne_true]
  unfold getAttrByItsOwn hookBefore
  refine wpAny_bind ?_
  rw [if_pos (show onTheHeap (Value.ref C) = true from rfl)]
  refine Lb.at ?_
  refine wpAny_bind (wpAny_attempt (wpAny_holding ?_))
  unfold callGetattribute
  rw [n3, if_neg Bool.false_ne_true]
  unfold boundAndCalled
  rw [PySem.F.excAttr_ValueError.ga.bind (.ref x)]
  refine wpAny_bind (wpAny_pure ?_)
  show wpAny _ _ (call (.builtin "BaseException.__getattribute__") [.ref x, .str "__class__" tk]) _ _ _
  refine wpAny_call (codeAny_call_builtin PySem.F.excAttr_ValueError.ga.plain PySem.F.entry_bexc_ga ?_)
  refine @check_slot (model prog w) _ _ ⟨hp, g, dr, tk + 1, os⟩ "BaseException.__getattribute__" "BaseException" "__getattribute__" (.ref x) [.str "__class__" tk] [] _ (by decide +kernel) (by decide +kernel) Ls (PySem.F.args_bexc_ga (.ref x) (.str "__class__" tk)) ?_
  unfold Builtin.«object.__getattribute__»
  refine wpAny_bind (wpAny_of_eq (a := ((Value.ref x : Value), [Value.str "__class__" tk])) (by first | rfl | (simp only [slotArgs]; rfl)) ?_)
  refine wpAny_bind (wpAny_pure (wpAny_bind (Lt.at (wpAny_bind (Lc.at ?_)))))
  show wpAny _ _ (holding [Value.builtin "object.__class__"] (call (.builtin "getset_descriptor.__get__") [.builtin "object.__class__", .ref x, .ref C]) >>= ret) _ _ _
  refine wpAny_bind (wpAny_holding (wpAny_call (class_get (s := ⟨hp, g, dr, tk + 1, os⟩) (ox := ob) (od := od) X I T.hm ?_)))
  refine wpAny_pure ?_
  show wpAny _ _ (handedOut (.ref C)) _ _ _
  rw [handedOut_of (v := .ref C) rfl]
  first
    | exact wpAny_pure (wpAny_pure q)
    | exact wpAny_pure q
    | exact wpAny_pure (wpAny_bind (wpAny_pure (wpAny_pure q)))
theorem kit_exd (T : ExcC K C) : KitX K (.ref x) (.ref C) (fun h => InstAt h x ob C od) where
  ty := fun _ _ _ I => I.type
  it := fun _ _ X _ => by
    obtain ⟨cd, hc, _⟩ := any_some T.hd
    unfold clsIn at hc
    split at hc
    · rename_i ho
      intro A' Q' E' s' k q
      unfold isType loadHead
      exact wpAny_bind (wpAny_loadPart (k _ _ (X _ _ ho)) (wpAny_pure q))
    · cases hc
  ne := fun h tp dd its n sl X htp => by
    obtain ⟨cd, hc, _⟩ := any_some T.hd
    refine Bool.eq_false_iff.mpr fun q => ?_
    have e : C = tp := Value.ref.inj (beq_iff_eq.mp q)
    subst e
    unfold clsIn at hc
    split at hc
    · rename_i ho
      have z := (X _ _ ho).symm.trans htp
      cases z
    · cases hc
  ca := fun X I k => cls_attr T X I k
end

/-! #### the making of an error -/
/-- what __init__ does: the value is kept -/
def spInit (K : PySem.W.Frag) : Sp := fun vs H Q _ => ∃ (a C : Addr) (v : V), vs = [.ref a, v] ∧ OexC K C ∧ PySem.W.findIn K (.ref C) "value" = some none ∧ H a = some (exo a C none) ∧
  ∀ dx, H dx = none → dx ≠ a → Q .non (upd (upd H dx (exd dx [(("value" : Str), v)])) a (exo a C (some dx)))
def tInit (K : PySem.W.Frag) : TS := tSeq (tDrop (tVeI K (tCons (tVar 0) (tCons (tVar 1) tNil)))) (tOst K "value" (tVar 0) (tVar 1))
theorem ok_init {P : Program} {w : World} {K : PySem.W.Frag} {mg : Str → Option Value} {base : Heap} {st : Stmt} {q : Str} {f : Addr} {fd : FuncData} (F : Fun K "__init__" q st f fd) (S : FnScope ["self", "value"] ["self", "value"] (defScope st))
    (hj : ∀ (cdv : Value) (A : Around) (outer : List PySem.Env) (s : Shared) (H : Hp) (E : XK), PSs (cxOf (L2.CX P w) P w K mg base ["self", "value"] q (defScope st) f cdv A outer s H E) (defBody st) (tInit K)) : FnOk P w K mg base (L2.CX P w) 1 f fd ["self", "value"] (spInit K) := by
  refine F.okX S (fun vs H Q E h => ?_) (fun cdv A outer s H vs Q E hr h => ⟨_, hj cdv A outer s H E, ?_⟩)
  · obtain ⟨a, C, v, rfl, _⟩ := h
    rfl
  · obtain ⟨a, C, v, rfl, T, nv, ha, q⟩ := h
    refine ⟨.ref a, rfl, v, rfl, a, C, [v], rfl, by simp, T, ha, v, rfl, .ref a, rfl, a, C, rfl, T, nv, .inl ⟨ha, fun dx hd ne => q dx hd ne⟩⟩
/-- raise c(e) -/
def sRaise (c : Str) (m : M D) : MS := fun ρ S => SR.bindR (m ρ S) ρ fun d S1 => .exc c d ρ S1
theorem js_raise {X : Cx} {W : WX} {c : Str} {C fI : Addr} {fd : FuncData} {e : Expr} {m : M D} {p pos pos2 : Pos} (hc : X.calm = true) (tk : Takes X W) (T : ErrC X.K X.mg c C fI) (tI : PySem.W.typeIn X.K (.ref fI) = some (.type "function"))
    (F1 : FnOk X.prog X.w X.K X.mg X.base (L2.CX X.prog X.w) 1 fI fd ["self", "value"] (spInit X.K)) (hb : Binds X.K fd ["self", "value"] []) (hr : Room 2 X.A) (ha : JE X W e m) (hg : Gl X c := by rfl) (hd : (c == ("__debug__" : Str)) = false := by decide)
    (he : starEach (e :: []) X.env = (false, eval e X.env) :: starEach [] X.env := by rfl) (hpl : (backTo pos (starEach [] X.env)).any (·.1) = false := by rfl) : JS X W (.Raise (some (.Call (.Name c p) [e] [] pos)) none pos2) (sRaise c m) :=
  (ps_raise hc tk (pmk_oex T.ox T.iC tI F1 hr hb .nil passL hg T.gC (pa_cons ha pa_nil he) hd he hpl)).imp fun Dn σ H h => by
    obtain ⟨ι, ρ, S, rs, re, f⟩ := tS_seq (R := fun ι H d v => RD X.K ι H d v) (m := m) (k := fun ρ d S1 => .exc c d ρ S1) h
    refine ⟨ι, ρ, S, rs, re, f.imp fun x H1 ⟨ι1, ρ1, d, S1, rs1, re1, rd1, f1⟩ => ⟨by simp, fun a ha0 => ?_⟩⟩
    refine ⟨a, C, x, rfl, T.ox, T.noV, upd_same, fun dx hdx ne => ⟨rfl, dx, [(("value" : Str), x)], upd_same, by rw [upd_ne ne, upd_same], ?_, ?_⟩⟩
    · rw [upd_ne ne] at hdx; exact hdx
    · have hdx1 : H1 dx = none := by rw [upd_ne ne] at hdx; exact hdx
      have e : upd (del (upd (upd (upd H1 a (exo a C none)) dx (exd dx [(("value" : Str), x)])) a (exo a C (some dx))) a) dx (.xd [(("value" : Str), x)]) = upd H1 dx (.xd [(("value" : Str), x)]) := by
        funext b
        by_cases h1 : b = dx
        · rw [h1, upd_same, upd_same]
        · rw [upd_ne h1, upd_ne h1]
          by_cases h2 : b = a
          · rw [h2, del_same, ha0]
          · rw [del_ne h2, upd_ne h2, upd_ne h1, upd_ne h2]
      rw [e]
      exact f1 ι1 _ σ C dx _ x (Ext.new0 hdx1) (rs1.new0 hdx1) (re1.mono (Ext.new0 hdx1)) T.gC upd_same (by simp [List.lookup]) (rd1.mono (Ext.new0 hdx1))
end MI

set_option Elab.async false
set_option linter.all false
set_option maxRecDepth 100000
set_option maxHeartbeats 4000000
namespace MI
open PySem PySem.Spec PyProof.Rows L2

/-! ### a caught error, in the store from the suite on -/
theorem inv_track {X : Cx} {pins : List (Addr × Obj)} {σ : L2.St} {H : Hp} {s : Shared} {a : Addr} {o : HO} (I : Inv X pins σ H s) (new : ObjOk X.prog X.w (upd H a o) s.heap a o) (na : H a = none) (n0 : X.s_0.heap.get? a = none) (nL : a ≠ X.env.locals)
    (nC : ∀ x c, X.env.cells.lookup x = some c → c ≠ a) (nP : ∀ p ∈ X.pn ++ pins, p.1 ≠ a) : Inv X pins σ (upd H a o) s := by
  have ne : ∀ {b u}, H b = some u → b ≠ a := fun e => ne_of_none e na
  have up : ∀ {b}, b ≠ a → H b = none → upd H a o b = none := fun h n => by rw [upd_ne h]; exact n
  have us : ∀ {b u}, H b = some u → upd H a o b = some u := fun e => by rw [upd_ne (ne e)]; exact e
  have B := I.base
  exact { ok := I.ok, os := I.os, bare := I.bare, loc := I.loc, cell := I.cell, len := I.len
          free := up (Ne.symm nL) I.free
          freeC := fun x c e => up (nC x c e) (I.freeC x c e)
          pin := fun p hp => let ⟨z1, z2, z3, z4, z5⟩ := I.pin p hp; ⟨z1, up (nP p hp) z2, z3, z4, z5⟩
          hok := I.hok.laidN (fun _ _ e => e) na new
          base := { keep := B.keep, slot := B.slot, there := B.there
                    free := fun b u e n hx => up (fun z => by rw [z, n0] at e; cases e) (B.free b u e n hx)
                    tups := fun b xs e => us (B.tups b xs e)
                    frzs := fun b u xs e => us (B.frzs b u xs e)
                    tbls := fun b ps e => let ⟨m, q⟩ := B.tbls b ps e; ⟨m, us q⟩ } }
theorem exo_new {P : Program} {w : World} {H : Hp} {h : Heap} {a C dd : Addr} {oe : Obj} {vs : Array Value} (he : h.get? a = some oe) (hz : Zc (.ref C) (some dd) oe) (hd : oe.data = .fields vs) : ObjOk P w H h a (EXO C dd a) :=
  ⟨⟨oe, vs, he, hz.1, hz.2, hd⟩, ⟨oe, he⟩, fun h1 h2 ⟨oe', vs', e1, e2, e3, e4⟩ k => ⟨oe', vs', k _ e1, e2, e3, e4⟩⟩
/-- what is wanted of an error of a try's body: slot i is the clause's name -/
def wHeld (K : PySem.W.Frag) (c : Value) (i : Nat) (ts : TS) (Wout : WX) (D : Ends) : WX := fun cls d σ H =>
  ∃ C dd b, cls = .ref C ∧ d = some dd ∧ PySem.W.exmOne K (.ref C) c = some b ∧
    (b = true → ∀ a, H a = none → ts { nx := fun σ' H' => D.nx (σ'.set i none) H', rt := D.rt, bk := fun σ' H' => D.bk (σ'.set i none) H', ct := fun σ' H' => D.ct (σ'.set i none) H' } (σ.set i (some (.ref a))) (upd H a (EXO C dd a))) ∧
    (b = false → Wout (.ref C) (some dd) σ H)
theorem inv_mark {X : Cx} {pins : List (Addr × Obj)} {σ : L2.St} {H : Hp} {s : Shared} {a : Addr} (I : Inv X pins σ H s) : Inv (X.suite a (X.pn ++ pins)) [] σ H s :=
  { ok := I.ok.suite _ _, os := I.os, bare := I.bare, base := I.base, loc := I.loc, cell := I.cell, free := I.free, freeC := I.freeC, hok := I.hok, len := I.len
    pin := fun p hp => I.pin p (by rw [List.append_nil] at hp; exact hp) }
theorem inv_unmark {X : Cx} {pins pn' : List (Addr × Obj)} {σ : L2.St} {H : Hp} {s : Shared} {a : Addr} (I : Inv (X.suite a (X.pn ++ pins)) pn' σ H s) (ok : X.Ok) : Inv X pins σ H s :=
  { ok := ok, os := I.os, bare := I.bare, base := I.base, loc := I.loc, cell := I.cell, free := I.free, freeC := I.freeC, hok := I.hok, len := I.len
    pin := fun p hp => I.pin p (List.mem_append_left _ hp) }
section
variable {X : Cx} {x n : Str} {c : Value} {i : Nat} {body suite : List Stmt} {b₀ : Stmt} {np pos pos' : Pos} {tb : WX → TS} {ts : TS} {Wout : WX}
theorem ps_try_held (hs : X.stack = X.env :: X.outer) (hf : X.env.frame = some X.env.locals) (hex : X.ex = []) (hN : X.N.Nodup) (hi : X.N[i]? = some n) (hln : X.env.kindOf n = some .local) (hc : Names X x c) (tk : Takes X Wout)
    (hb : ∀ (W : WX) (pn : List (Addr × Obj)) (xe : Value → Shared → Prop), Takes (X.tr pn xe) W → PassesOwn (model X.prog X.w) X.A X.env xe → PSs (X.tr pn xe) body (tb W))
    (hsu : ∀ (a : Addr) (pn : List (Addr × Obj)), PSs (X.suite a pn) (b₀ :: suite) ts) :
    PS X (.Try body [.ExceptHandler (some (.Name x np)) (some n) (b₀ :: suite) pos'] [] [] pos) (fun D σ H => tb (wHeld X.K c i ts Wout D) D σ H) := by
  refine ⟨fun pins s σ H D I h => ?_⟩
  have okX := I.ok
  have frX : X.A.frames = some (X.env :: X.outer) := by rw [okX.frames, hs]
  refine wpAny_Try_except ?_
  refine wpAny_mono ((hb (wHeld X.K c i ts Wout D) (X.pn ++ pins) (fun e s₁ => wpAny (model X.prog X.w) X.A (noteFrame e X.env) (fun _ s₂ => wpAny (model X.prog X.w) X.A (setFlight e none) (fun _ s₃ =>
    wpAny (model X.prog X.w) X.A (handleBy e X.env [.ExceptHandler (some (.Name x np)) (some n) (b₀ :: suite) pos']) (SP X pins D) X.xe s₃) X.xe s₂) X.xe s₁) (fun u s' air => ?_) PassesOwn.looking).run [] s σ H D (I.toTry _) h) (fun fl s1 hsp => ?_) (fun e s1 he => he)
  · obtain ⟨a, B, sI, pq, σ', H', cls, d, rfl, J0, nb, up0, sky, na, os, ag, C, dd, b, rfl, rfl, hb1, hyes, hno⟩ := air
    have J : Inv X pins σ' H' sI := J0.ofTry okX
    rw [hs] at sky
    show wpAny (model X.prog X.w) X.A (noteFrame (.ref a) X.env) _ _ _
    refine Sky.land Zc.steady frX hf sky fun hA flA upA => ?_
    have JA : Inv X pins σ' H' { s' with heap := hA } := J.landed nb flA.1 (up0.trans upA) os ag
    obtain ⟨oA, vA, eA, zA, dA⟩ := flA.there
    have off : a ∉ frs (X.env :: X.outer) := fun hm => by
      obtain ⟨_, o2, e2, hnf⟩ := flA.2.2.1.mem hm
      rw [eA] at e2; cases e2
      exact hnf _ dA
    have nL : a ≠ X.env.locals := fun z => off (List.mem_filterMap.mpr ⟨X.env, List.mem_cons_self, by rw [hf, z]⟩)
    -- it was not there ahead of the body's end
    have nI : sI.heap.get? a = none := by
      cases q : sI.heap.get? a with
      | none => rfl
      | some o =>
        have z := nb a o q (by rw [hs]; exact off)
        have z2 := flA.2.1
        rw [z] at z2; cases z2
    have n0 : X.s_0.heap.get? a = none := by
      cases q : X.s_0.heap.get? a with
      | none => rfl
      | some o =>
        obtain ⟨o', e'⟩ := J.base.there a o q (by rw [hex]; simp)
        rw [nI] at e'; cases e'
    have nC : ∀ y k, X.env.cells.lookup y = some k → k ≠ a := fun y k e z => by
      obtain ⟨v, oc, q, _⟩ := J.cell y k e
      rw [z, nI] at q; cases q
    have nP : ∀ p ∈ X.pn ++ pins, p.1 ≠ a := fun p hp z => by
      have q := (J.pin p hp).1
      rw [z, nI] at q; cases q
    have nF : a ∉ X.fs := fun hm => by
      obtain ⟨e, he, q⟩ := List.mem_filterMap.mp hm
      exact off (List.mem_filterMap.mpr ⟨e, List.mem_cons_of_mem _ he, q⟩)
    have SA := JA.suite eA dA na nL nF
    refine wpAny_handleBy_cons (codeAny_handlers_test ?_) (by intro q; cases q)
    have look : PySem.W.Looks (model X.prog X.w) hA (typeOf (.ref a)) (.ref C) := fun A Q E s k q => wpAny_typeOf_ref (k _ _ eA) (by rw [zA.1]; exact q)
    have named : ∀ {Q : Value → Shared → Prop} {E : Value → Shared → Prop}, Q c { s' with heap := hA } → wpAny (model X.prog X.w) (X.A.mark (some (.ref a))) (eval (.Name x np) X.env) Q E { s' with heap := hA } := fun {Q E} q => by
      obtain ⟨gl, hdb, hm | ⟨hm, hv, hnn⟩⟩ := hc
      · exact ld_glob (X := X.suite a ((a, oA) :: (X.pn ++ pins))) SA gl hm q hdb
      · exact ld_blt (X := X.suite a ((a, oA) :: (X.pn ++ pins))) SA gl hm hv q hnn hdb
    refine named ((PySem.W.exm_one (M := model X.prog X.w) JA.kIn look hb1).here ?_)
    cases b with
    | true =>
      refine codeAny_handlers_suite_as ?_
      refine HandSPX.lands_againZ flA fun hB flB upB => ?_
      have JB : Inv X pins σ' H' { s' with heap := hB } := J.landed nb flB.1 ((up0.trans upA).trans upB) os ag
      obtain ⟨oB, vB, eB, zB, dB⟩ := flB.there
      have JT := inv_mark (a := a) (inv_track (o := EXO C dd a) JB (exo_new eB zB dB) na n0 nL nC nP)
      refine store_ok (X := X.suite a (X.pn ++ pins)) (v := .ref a) JT hN hi (.inl hln) rfl (fun s5 S5 => ?_) (.inr hln)
      refine wpAny_mono ((hsu a (X.pn ++ pins)).run [] s5 _ _ _ S5 (hyes rfl a na)) (fun fl s6 hsp => ?_) (fun _ _ z => False.elim z)
      have gone : ∀ {σ6 : L2.St} {H6 : Hp} {Q : Shared → Prop}, Inv (X.suite a (X.pn ++ pins)) [] σ6 H6 s6 → (∀ s7, Inv X pins (σ6.set i none) H6 s7 → Q s7) →
          wpAny (model X.prog X.w) X.A (do bindName X.env n .none; unbindBehindTheSuite X.env n pos') (fun _ s7 => Q s7) X.xe s6 := fun {σ6 H6 Q} S6 hq => gone_ok (inv_unmark S6 okX) hN hi hln hq
      cases fl with
      | next => obtain ⟨σ6, H6, S6, q6⟩ := hsp; exact gone S6 fun s7 J7 => ⟨_, _, J7, q6⟩
      | brk => obtain ⟨σ6, H6, S6, q6⟩ := hsp; exact gone S6 fun s7 J7 => ⟨_, _, J7, q6⟩
      | cont => obtain ⟨σ6, H6, S6, q6⟩ := hsp; exact gone S6 fun s7 J7 => ⟨_, _, J7, q6⟩
      | ret u => obtain ⟨v6, σ6, H6, S6, r6, q6⟩ := hsp; exact gone S6 fun s7 J7 => ⟨_, _, _, J7, r6, q6⟩
    | false =>
      show wpAny _ X.A (handleBy (.ref a) X.env []) _ _ _
      refine wpAny_handleBy_nil ?_
      obtain ⟨_, _, _, oe, vs, T, oT, _, he, hz, hd, h1, hr⟩ := id flA
      unfold PySem.passOn
      refine wpAny_bind (wpAny_field he hd h1 ?_)
      rw [if_neg (show ¬ ((Value.ref T == Value.none) = true) from by simp)]
      have thru : wpAny (model X.prog X.w) X.A (setFlight (.ref a) X.env.frame) (fun _ s4 => wpAny (model X.prog X.w) X.A (throw (.ref a) : Sem Flow) (SP X pins D) X.xe s4) X.xe { s' with heap := hA } := by
        rw [hf]
        refine HandSPX.setFlight_upZ flA fun hB hh upB => wpAny_throw (tk _ _ ?_)
        exact ⟨a, B, sI, pins, σ', H', .ref C, some dd, rfl, J, nb, (up0.trans upA).trans upB, .inr (.inr (by rw [hs]; exact hh)), na, os, ag, hno rfl⟩
      first
        | exact wpAny_bind (wpAny_pure (wpAny_bind thru))
        | exact wpAny_bind thru
  · cases fl with
    | next => obtain ⟨σ', H', J', q⟩ := hsp; exact wpAny_execs_nil ⟨σ', H', J'.ofTry okX, q⟩
    | brk => obtain ⟨σ', H', J', q⟩ := hsp; exact ⟨σ', H', J'.ofTry okX, q⟩
    | cont => obtain ⟨σ', H', J', q⟩ := hsp; exact ⟨σ', H', J'.ofTry okX, q⟩
    | ret u => obtain ⟨v, σ', H', J', r, q⟩ := hsp; exact ⟨v, σ', H', J'.ofTry okX, r, q⟩
end
/-- try: .. except C as n: ..; what is caught goes into the store -/
def sTry (cat : Str → Option Bool) (i : Nat) (b s : MS) : MS := fun ρ S => match b ρ S with
  | .exc c v ρ1 S1 => match cat c with
    | some true => match s (ρ1.set i (some (.ref S1.length))) (S1 ++ [.exc c v]) with
      | .next ρ2 S2 => .next (ρ2.set i none) S2
      | .brk ρ2 S2 => .brk (ρ2.set i none) S2
      | .cont ρ2 S2 => .cont (ρ2.set i none) S2
      | .exc _ _ _ _ => .no
      | r => r
    | some false => .exc c v ρ1 S1
    | none => .no
  | r => r
theorem js_try {X : Cx} {W : WX} {x n : Str} {c : Value} (i : Nat) {body suite : List Stmt} {b₀ : Stmt} {np pos pos' : Pos} {mb ms : MS} {cat : Str → Option Bool} (hs : X.stack = X.env :: X.outer) (hf : X.env.frame = some X.env.locals) (hex : X.ex = []) (hN : X.N.Nodup) (hi : X.N[i]? = some n) (hln : X.env.kindOf n = some .local) (hc : Names X x c) (tk : Takes X W)
    (hcat : ∀ e C b, X.mg e = some (.ref C) → cat e = some b → PySem.W.exmOne X.K (.ref C) c = some b)
    (hb : ∀ (W : WX) (pn : List (Addr × Obj)) (xe : Value → Shared → Prop), Takes (X.tr pn xe) W → PassesOwn (model X.prog X.w) X.A X.env xe → JSs (X.tr pn xe) W body mb)
    (hsu : ∀ (a : Addr) (pn : List (Addr × Obj)), JSs (X.suite a pn) noW (b₀ :: suite) ms) :
    JS X W (.Try body [.ExceptHandler (some (.Name x np)) (some n) (b₀ :: suite) pos'] [] [] pos) (sTry cat i mb ms) :=
  (ps_try_held (tb := fun W => tS X.K X.mg W mb) (ts := tS X.K X.mg noW ms) hs hf hex hN hi hln hc tk hb hsu).imp fun Dn σ H ⟨ι, ρ, S, rs, re, f⟩ => by
    refine ⟨ι, ρ, S, rs, re, ?_⟩
    unfold sTry at f
    cases h : mb ρ S with
    | next ρ' S' => rw [h] at f; exact f
    | ret d S' => rw [h] at f; exact f
    | brk ρ' S' => rw [h] at f; exact f
    | cont ρ' S' => rw [h] at f; exact f
    | no => rw [h] at f; exact f
    | exc e v ρ1 S1 =>
      rw [h] at f
      intro ι' H' σ' C dd fs u x' rs' re' e1 e2 e3 rd
      cases hct : cat e with
      | none => simp only [hct] at f; exact f.elim
      | some b =>
        refine ⟨C, dd, b, rfl, rfl, hcat e C b e1 hct, fun hb => ?_, fun hb => ?_⟩
        · subst hb
          simp only [hct] at f
          intro a ha
          have xa := x'.trans (Ext.new1 (o := EXO C dd a) ha)
          have rsa : RS X.K X.mg (ι' ++ [a]) (S1 ++ [.exc e v]) (upd H' a (EXO C dd a)) := rs'.push ha ⟨C, dd, fs, u, e1, upd_same, by rw [upd_ne (ne_of_none e2 ha)]; exact e2, e3, rd.mono (Ext.new1 ha)⟩
          have rea : RE X.K (ι' ++ [a]) (upd H' a (EXO C dd a)) (ρ1.set i (some (.ref S1.length))) (σ'.set i (some (.ref a))) := (re'.mono (Ext.new1 ha)).set i (.ref (by rw [rs'.len, List.getElem?_append_right (Nat.le_refl _), Nat.sub_self]; rfl))
          refine ⟨ι' ++ [a], _, _, rsa, rea, ?_⟩
          cases hs2 : ms (ρ1.set i (some (.ref S1.length))) (S1 ++ [.exc e v]) with
          | next ρ2 S2 =>
            simp only [hs2] at f
            exact fun ι2 H2 σ2 y r1 r2 => f ι2 H2 _ (xa.trans y) r1 (r2.clear i)
          | brk ρ2 S2 =>
            simp only [hs2] at f
            exact fun ι2 H2 σ2 y r1 r2 => f ι2 H2 _ (xa.trans y) r1 (r2.clear i)
          | cont ρ2 S2 =>
            simp only [hs2] at f
            exact fun ι2 H2 σ2 y r1 r2 => f ι2 H2 _ (xa.trans y) r1 (r2.clear i)
          | ret d S2 =>
            simp only [hs2] at f
            exact fun ι2 H2 v2 y r1 r2 => f ι2 H2 v2 (xa.trans y) r1 r2
          | exc c d ρ2 S2 => simp only [hs2] at f; exact f.elim
          | no => simp only [hs2] at f; exact f.elim
        · subst hb
          simp only [hct] at f
          exact f ι' H' σ' C dd fs u x' rs' re' e1 e2 e3 rd
end MI

set_option Elab.async false
set_option linter.all false
set_option maxRecDepth 100000
set_option maxHeartbeats 4000000
namespace MI
open PySem PySem.Spec PyProof.Rows L2

/-! ### e.value, isinstance(e, C) -/
def excAt (d : D) (S : Store) : Option (Str × D) := match d with
  | .ref i => match S[i]? with
    | some (.exc c v) => some (c, v)
    | _ => none
  | _ => none
theorem excAt_v {K : PySem.W.Frag} {mg : Str → Option Value} {ι : List Addr} {S : Store} {H : Hp} {d : D} {x : V} {c : Str} {v : D} (rs : RS K mg ι S H) (rd : RD K ι H d x) (h : excAt d S = some (c, v)) :
    ∃ a C dd fs u, x = .ref a ∧ mg c = some (.ref C) ∧ H a = some (EXO C dd a) ∧ H dd = some (.xd fs) ∧ fs.lookup ("value" : Str) = some u ∧ RD K ι H v u := by
  unfold excAt at h
  split at h
  · split at h
    · rename_i hx
      cases h
      obtain ⟨a, rfl, ha⟩ := rd.ref_inv
      obtain ⟨C, dd, fs, u, e1, e2, e3, e4, r⟩ := rs.get' hx ha
      exact ⟨a, C, dd, fs, u, rfl, e1, e2, e3, e4, r⟩
    · cases h
  · cases h
theorem inst_of {X : Cx} {pins : List (Addr × Obj)} {σ : L2.St} {H : Hp} {s : Shared} {a C dd : Addr} {fs : List (Str × V)} (I : Inv X pins σ H s) (ha : H a = some (EXO C dd a)) (hd : H dd = some (.xd fs)) :
    ∃ oe od, PySem.W.InstAt s.heap a oe C (some od) ∧ ∃ mA : Str → Option Value, (∀ f, PySem.W.lookIn f od = some (mA f)) ∧ ∀ f, RelO (fs.lookup f) (mA f) := by
  have x1 : ObjOk X.prog X.w H s.heap a (EXO C dd a) := I.hok a _ ha
  obtain ⟨⟨oe, vs, e1, e2, e3, e4⟩, _, _⟩ := x1
  have x2 : ObjOk X.prog X.w H s.heap dd (.xd fs) := I.hok dd _ hd
  obtain ⟨mA, hns, hr⟩ := x2
  obtain ⟨od, ho, hl⟩ := lookIn_ns hns
  exact ⟨oe, od, ⟨e1, e2, by unfold PySem.W.notCls; rw [e4] <;> rfl, by rw [e3]; exact ho⟩, mA, hl, hr⟩
/-- the own error classes -/
structure Errs (K : PySem.W.Frag) (mg : Str → Option Value) (names : List Str) : Prop where
  all : ∀ c C, c ∈ names → mg c = some (.ref C) → ∃ fI, ErrC K mg c C fI
def mVal (names : List Str) (m : M D) : M D := fun ρ S => (m ρ S).bind fun d S1 => match excAt d S1 with
  | some (c, v) => if c ∈ names then .ok v S1 else .no
  | none => .no
section
variable {X : Cx} {W : WX} {e : Expr} {m : M D} {pos p1 p2 : Pos} {names : List Str}
theorem j_val (T : Errs X.K X.mg names) (he : JE X W e m) (hb : attributeBase e "value" X.env (eval e X.env) = eval e X.env := by rfl) : JE X W (.Attribute e "value" pos) (mVal names m) := by
  refine ⟨fun pins s σ H Q I want => ?_⟩
  obtain ⟨ι, ρ, S, rs, re, f⟩ := tG_seq (R := fun ι H d v => RD X.K ι H d v) (m := m) (k := fun ρ d S1 => match excAt d S1 with
    | some (c, v) => if c ∈ names then .ok v S1 else .no
    | none => .no) want
  refine attr_of hb (thn (he.run pins s σ H _ I ⟨ι, ρ, S, rs, re, f⟩) fun u s1 ⟨x, H1, I1, rx, ι1, ρ1, d, S1, rs1, re1, rd1, f1⟩ => ?_)
  cases h : excAt d S1 with
  | none => rw [h] at f1; exact f1.elim
  | some cv =>
    obtain ⟨c, v⟩ := cv
    rw [h] at f1
    dsimp only at f1
    split at f1
    · rename_i hc
      obtain ⟨a, C, dd, fs, y, rfl, e1, e2, e3, e4, r⟩ := excAt_v rs1 rd1 h
      obtain rfl : u = Value.ref a := rx
      obtain ⟨fI, TC⟩ := T.all c C hc e1
      obtain ⟨oe, od, J, mA, hl, hr⟩ := inst_of I1 e2 e3
      obtain ⟨uv, hu, ru⟩ := RelO.some_of (v := y) (o := mA "value") (by rw [← e4]; exact hr "value")
      exact HandSPX.exc_get I1.kIn J TC.ex.hg TC.ex.hk TC.ex.hs (PySem.W.findObj_own TC.ex.hd TC.noV rfl (by rw [hl, hu])) (handed_of ru) ⟨y, H1, I1.tok _, ru, f1 ι1 H1 y (Ext.refl _ _) rs1 r⟩
    · exact f1.elim
/-- isinstance(e, C), C told by its name; sub: is the first one's class below it -/
def mIsE (names : List Str) (sub : Str → Bool) (m : M D) : M D := fun ρ S => (m ρ S).bind fun d S1 => match excAt d S1 with
  | some (c, _) => if c ∈ names then .ok (.bl (sub c)) S1 else .no
  | none => .no
theorem j_isE {cls : Str} {cv : V} {u : Value} {sub : Str → Bool} (T : Errs X.K X.mg names) (hm : X.mg "isinstance" = none) (ha : JE X W e m) (hcls : PE X (.Name cls p2) (tC cv)) (hcu : ∀ w, RelV cv w → w = u)
    (hk : ∀ c C, c ∈ names → X.mg c = some (.ref C) → PySem.W.kitOne X.K (.ref C) u = some (sub c)) (hg : Gl X "isinstance" := by rfl) (hb : bootBuiltins "isinstance" = some (.builtin "isinstance") := by decide +kernel)
    (he : starEach (e :: [.Name cls p2]) X.env = (false, eval e X.env) :: starEach [.Name cls p2] X.env := by rfl) (he2 : starEach [.Name cls p2] X.env = (false, eval (.Name cls p2) X.env) :: starEach [] X.env := by rfl) (hpl : (backTo pos (starEach [.Name cls p2] X.env)).any (·.1) = false := by rfl) :
    JE X W (.Call (.Name "isinstance" p1) [e, .Name cls p2] [] pos) (mIsE names sub m) := by
  have step : CallR X (.builtin "isinstance") (fun xs H Q => ∃ ι S d x c v, xs = [x, cv] ∧ RS X.K X.mg ι S H ∧ RD X.K ι H d x ∧ excAt d S = some (c, v) ∧ c ∈ names ∧ Q (.bl (sub c)) H) := by
    intro pins s σ H xs us Q I r want
    obtain ⟨ι, S, d, x, c, v, rfl, rs, rd, h, hc, q⟩ := want
    obtain ⟨u1, u2, rfl, r1, r2⟩ := vals2 r
    have e2 := hcu _ r2
    subst e2
    obtain ⟨a, C, dd, fs, y, rfl, e1, e2, e3, e4, _⟩ := excAt_v rs rd h
    obtain rfl : u1 = Value.ref a := r1
    obtain ⟨fI, TC⟩ := T.all c C hc e1
    obtain ⟨oe, od, J, _⟩ := inst_of I e2 e3
    exact PySem.W.kia_one (kit_exd TC.ex) I.kIn J (hk c C hc e1) (fun z => nomatch z) fun tk => ⟨.bl _, H, I.kept (t' := tk) fun _ _ z => z, rfl, q⟩
  refine (pe_callB step hg hm hb (pa_cons ha (pa_cons hcls pa_nil he2) he) (by decide) (by decide) he hpl).imp fun σ H Q h => ?_
  obtain ⟨ι, ρ, S, rs, re, f⟩ := tG_seq (R := fun ι H d v => RD X.K ι H d v) (m := m) (k := fun ρ d S1 => match excAt d S1 with
    | some (c, _) => if c ∈ names then Res.ok (D.bl (sub c)) S1 else .no
    | none => .no) h
  refine ⟨ι, ρ, S, rs, re, f.imp fun x H1 ⟨ι1, ρ1, d, S1, rs1, re1, rd1, f1⟩ => ?_⟩
  cases h : excAt d S1 with
  | none => rw [h] at f1; exact f1.elim
  | some cv2 =>
    obtain ⟨c, v⟩ := cv2
    rw [h] at f1
    dsimp only at f1
    split at f1
    · rename_i hc
      exact ⟨ι1, S1, d, x, c, v, rfl, rs1, rd1, h, hc, f1 ι1 H1 _ (Ext.refl _ _) rs1 (.bl _)⟩
    · exact f1.elim
end

/-! ### repr -/
def flatP : D → Option PyData
  | .non => some .none
  | .bl b => some (.bool b)
  | .int i => some (.int i)
  | .str x => some (.str x)
  | _ => none
def keyP : Key → PyData
  | .inl i => .int i
  | .inr x => .str x
def flatKvs : List (Key × D) → Option (List (PyData × PyData))
  | [] => some []
  | (k, d) :: r => match flatP d, flatKvs r with
    | some p, some ps => some ((keyP k, p) :: ps)
    | _, _ => none
/-- a dict of flat things -/
def flatD (S : Store) (d : D) : Option PyData := match d with
  | .ref i => match S[i]? with
    | some (.dct kvs) => (flatKvs kvs).map .dict
    | _ => none
  | _ => none
def shows (p : PyData) : Bool := p.showable && decide (p.shown.length ≤ 16777216) && decide (p.depth ≤ 60)
def reprP (S : Store) (d : D) : Option PyData := match toPy S fuelD d with
  | some p => some p
  | none => flatD S d
def gRepr (xs : List D) (S : Store) : Res D := match xs with
  | [d] => match reprP S d with
    | some p => if shows p = true then .ok (.str p.shown) S else .no
    | none => .no
  | _ => .no
theorem calm_repr : CalmN gRepr := fun ds S c v S' h => by
  unfold gRepr at h
  split at h
  · split at h
    · split at h <;> cases h
    · cases h
  · cases h
theorem toPy_noDict {S : Store} : (∀ n d p, toPy S n d = some p → p.hasDict = false) ∧ (∀ n ds ps, toPys S n ds = some ps → PyData.hasDictAll ps = false) := by
  suffices h : ∀ n, (∀ d p, toPy S n d = some p → p.hasDict = false) ∧ (∀ ds ps, toPys S n ds = some ps → PyData.hasDictAll ps = false) from ⟨fun n => (h n).1, fun n => (h n).2⟩
  intro n
  induction n with
  | zero => exact ⟨fun d p h => by simp [toPy] at h, fun d p h => by simp [toPys] at h⟩
  | succ n ih =>
    refine ⟨fun d p h => ?_, fun ds ps h => ?_⟩
    · cases d with
      | tup xs =>
        simp only [toPy, Option.map_eq_some_iff] at h
        obtain ⟨ps, h1, rfl⟩ := h
        simp only [PyData.hasDict]; exact ih.2 _ _ h1
      | fro xs =>
        simp only [toPy, Option.map_eq_some_iff] at h
        obtain ⟨ps, h1, rfl⟩ := h
        simp only [PyData.hasDict]; exact ih.2 _ _ h1
      | ref i =>
        simp only [toPy] at h
        split at h
        · simp only [Option.map_eq_some_iff] at h
          obtain ⟨ps, h1, rfl⟩ := h
          simp only [PyData.hasDict]; exact ih.2 _ _ h1
        · cases h
      | _ => simp only [toPy, Option.some.injEq] at h; subst h; simp only [PyData.hasDict]
    · cases ds with
      | nil => simp only [toPys, Option.some.injEq] at h; subst h; simp only [PyData.hasDictAll]
      | cons x xs =>
        simp only [toPys] at h
        split at h
        · rename_i p ps' h1 h2
          cases h
          simp only [PyData.hasDictAll, ih.1 _ _ h1, ih.2 _ _ h2, Bool.or_false]
        · cases h
theorem flatP_reads {K : PySem.W.Frag} {ι : List Addr} {H : Hp} {h : Heap} {d : D} {v : V} {u : Value} {p : PyData} (rd : RD K ι H d v) (r : RelV v u) (e : flatP d = some p) : Reads h u p [] := by
  cases d with
  | non => simp only [flatP, Option.some.injEq] at e; subst e; rw [rd.non_inv] at r; cases r; exact .none
  | bl b => simp only [flatP, Option.some.injEq] at e; subst e; rw [rd.bl_inv] at r; cases r; exact .bool b
  | int i => simp only [flatP, Option.some.injEq] at e; subst e; rw [rd.int_inv] at r; obtain ⟨t, rfl⟩ := r; exact .int i t
  | str x => simp only [flatP, Option.some.injEq] at e; subst e; rw [rd.str_inv] at r; obtain ⟨t, rfl⟩ := r; exact .str x t
  | _ => simp [flatP] at e
theorem keyP_reads {h : Heap} {k : Key} {u : Value} (e : keyIs k u = true) : Reads h u (keyP k) [] := by
  rcases keyIs_shape e with ⟨i, t, rfl, rfl⟩ | ⟨x, t, rfl, rfl⟩
  · exact .int i t
  · exact .str x t
theorem flat_all {P : Program} {w : World} {K : PySem.W.Frag} {ι : List Addr} {H : Hp} {h : Heap} : ∀ {kvs : List (Key × D)} {ws : List (Key × V)} {vs : List (Key × Value)} {es : List DictEntry} {ps : List (PyData × PyData)},
    RKV K ι H kvs ws → KV ws vs → Pairs (mixKind P w) es vs → flatKvs kvs = some ps → ReadsAll h (es.map (·.key)) (ps.map (·.1)) [] ∧ ReadsAll h (es.map (·.val)) (ps.map (·.2)) []
  | [], _, _, _, ps, r1, r2, r3, e => by
    cases r1; cases r2; cases r3
    simp only [flatKvs, Option.some.injEq] at e
    subst e
    exact ⟨.nil, .nil⟩
  | (k, d) :: kvs, _, _, _, ps, r1, r2, r3, e => by
    cases r1 with
    | cons a1 t1 =>
      cases r2 with
      | cons a2 t2 =>
        cases r3 with
        | cons b1 b2 t3 =>
          simp only [flatKvs] at e
          split at e
          · rename_i p ps' h1 h2
            cases e
            obtain ⟨q1, q2⟩ := flat_all (h := h) t1 t2 t3 h2
            obtain ⟨c1, c2⟩ := a1
            obtain ⟨d1, d2⟩ := a2
            dsimp only at c1 c2 d1 d2 b1 b2
            have w1 := keyP_reads (h := h) b1
            have w2 := flatP_reads (h := h) c2 d2 h1
            rw [← b2] at w2
            rw [← d1, ← c1] at w1
            exact ⟨.cons w1 q1, .cons w2 q2⟩
          · cases e
section
variable {X : Cx}
theorem c_repr (hu : X.A.units + 64 < cLine) (hG : X.A.guards = some []) : CallR X (.builtin "repr") (rN X.K X.mg gRepr) := by
  intro pins s σ H xs us Q I r want
  obtain ⟨ι, S, ds, rs, rd, f⟩ := want
  unfold gRepr at f
  split at f
  · rename_i d
    split at f
    · rename_i p hp
      split at f
      · rename_i hs
        unfold shows at hs
        simp only [Bool.and_eq_true, decide_eq_true_eq] at hs
        obtain ⟨⟨s1, s2⟩, s3⟩ := hs
        obtain ⟨v, rfl, r1⟩ := rd.one_inv
        obtain ⟨u, rfl, ru⟩ := vals1 r
        have q : ∀ H', Ext ι H ι H' → RS X.K X.mg ι S H' → Q (.str p.shown) H' := fun H' x rs' => f ι H' _ x rs' (.str _)
        have q := q H (Ext.refl _ _) rs
        unfold reprP at hp
        have atoms : ∀ {as : List Addr}, Reads s.heap u p as → (p.hasDict = true → sysModules ∉ as) → wpAny (model X.prog X.w) X.A (call (.builtin "repr") [u]) (EP X pins σ Q) X.xe s := fun {as} rd hno => by
          cases rd with
          | none => exact PySem.P.repr_of_none ⟨.str "None", H, I.tok _, ⟨_, rfl⟩, by simpa [PyData.shown] using q⟩
          | bool b => exact PySem.P.repr_of_bool ⟨.str (if b then "True" else "False"), H, I.tok _, ⟨_, rfl⟩, by simpa [PyData.shown] using q⟩
          | int i t => exact PySem.P.repr_of_int (by simpa [PyData.showable] using s1) ⟨.str (toString i), H, I.tok _, ⟨_, rfl⟩, by simpa [PyData.shown] using q⟩
          | str x t => exact PySem.P.repr_of_str ⟨.str (reprText x), H, I.tok _, ⟨_, rfl⟩, by simpa [PyData.shown] using q⟩ (by rw [sizeLine_eq]; simpa [PyData.shown] using s2)
          | list a b c d => exact repr_of_reads' (.list a b c d) s1 hno hG (by omega) (fun _ _ e => e) (fun h' tu tk k => ⟨.str (PyData.shown _), H, I.kept k, ⟨_, rfl⟩, q⟩) (by rw [sizeLine_eq]; exact s2)
          | tuple a b c d => exact repr_of_reads' (.tuple a b c d) s1 hno hG (by omega) (fun _ _ e => e) (fun h' tu tk k => ⟨.str (PyData.shown _), H, I.kept k, ⟨_, rfl⟩, q⟩) (by rw [sizeLine_eq]; exact s2)
          | dict a b c d e => exact repr_of_reads' (.dict a b c d e) s1 hno hG (by omega) (fun _ _ e => e) (fun h' tu tk k => ⟨.str (PyData.shown _), H, I.kept k, ⟨_, rfl⟩, q⟩) (by rw [sizeLine_eq]; exact s2)
        cases ht : toPy S fuelD d with
        | some p' =>
          rw [ht] at hp
          cases hp
          obtain ⟨as, hrd⟩ := Dp.reads I p v u (toPy_dp rs _ _ _ _ r1 ht) ru
          exact atoms hrd fun z => by rw [toPy_noDict.1 _ _ _ ht] at z; cases z
        | none =>
          rw [ht] at hp
          dsimp only at hp
          unfold flatD at hp
          split at hp
          · split at hp
            · rename_i i _ kvs hx
              obtain ⟨ps, h1, rfl⟩ := Option.map_eq_some_iff.mp hp
              obtain ⟨a, rfl, ha⟩ := r1.ref_inv
              obtain ⟨ws, e1, r2⟩ := rs.get' hx ha
              cases ru
              obtain ⟨_, ns, vs, rk, o, es, ep, g1, g2, g3, _, g5, _⟩ := dk_of I.hok e1
              obtain ⟨q1, q2⟩ := flat_all (P := X.prog) (w := X.w) (h := s.heap) r2 rk g5 h1
              exact atoms (.dict g1 g2.1 g3 q1 q2) fun _ hm => by
                rcases List.mem_cons.mp hm with z | z
                · rw [← z] at ns; exact absurd ((beq_self_eq_true _).symm.trans ns) (by decide)
                · cases z
            · cases hp
          · cases hp
      · exact f.elim
    · exact f.elim
  · exact f.elim
end
end MI

set_option Elab.async false
set_option linter.all false
set_option maxRecDepth 100000
set_option maxHeartbeats 4000000
namespace MI
open PySem PySem.Spec PyProof.Rows L2

/-! ### dicts written out, their keys texts -/
def putD {β : Type} (kvs : List (Key × β)) (k : Key) (v : β) : List (Key × β) :=
  if (kvs.any fun kv => decide (kv.1 = k)) = true then kvs.map (fun kv => if kv.1 = k then (kv.1, v) else kv) else kvs ++ [(k, v)]
def mergeD {β : Type} (kvs more : List (Key × β)) : List (Key × β) := more.foldl (fun acc kv => putD acc kv.1 kv.2) kvs
theorem RKV.put {K : PySem.W.Frag} {ι : List Addr} {H : Hp} {d : D} {v : V} (k : Key) (q : RD K ι H d v) {l : List (Key × D)} {l' : List (Key × V)} (r : RKV K ι H l l') : RKV K ι H (putD l k d) (putK l' k v) := by
  have any : (l.any fun kv => decide (kv.1 = k)) = (l'.any fun kv => decide (kv.1 = k)) := by
    unfold RKV at r
    induction r with
    | nil => rfl
    | cons h t ih => simp only [List.any_cons, ih, h.1]
  unfold putD L2.putK
  rw [any]
  split
  · rename_i hb
    clear hb
    unfold RKV at r ⊢
    clear any
    induction r with
    | nil => exact .nil
    | @cons a b as bs h t ih =>
      simp only [List.map_cons]
      refine .cons ?_ ih
      rw [h.1]
      split
      · exact ⟨rfl, q⟩
      · exact h
  · rename_i hb
    clear hb
    unfold RKV at r ⊢
    clear any
    induction r with
    | nil => exact .cons ⟨rfl, q⟩ .nil
    | cons h t ih => exact .cons h ih
theorem RKV.merge {K : PySem.W.Frag} {ι : List Addr} {H : Hp} : ∀ {m : List (Key × D)} {m' : List (Key × V)} {l : List (Key × D)} {l' : List (Key × V)}, RKV K ι H m m' → RKV K ι H l l' → RKV K ι H (mergeD l m) (mergeK l' m')
  | [], _, _, _, .nil, r => r
  | p :: m, q :: m', l, l', .cons h t, r => by
    have e := RKV.put p.1 h.2 r
    have e2 : putK l' p.1 q.2 = putK l' q.1 q.2 := by rw [h.1]
    rw [e2] at e
    show RKV K ι H (mergeD (putD l p.1 p.2) m) (mergeK (putK l' q.1 q.2) m')
    exact RKV.merge t e
/-- the pairs from the left -/
def mPrs : List (Str × M D) → M (List (Key × D))
  | [] => fun _ S => .ok [] S
  | (k, m) :: r => fun ρ S => (m ρ S).bind fun d S1 => (mPrs r ρ S1).bind fun ps S2 => .ok ((.inr k, d) :: ps) S2
def mDict (l : List (Str × M D)) : M D := fun ρ S => (mPrs l ρ S).bind fun ps S1 => .ok (.ref S1.length) (S1 ++ [.dct (mergeD [] ps)])
inductive JPrs (X : Cx) (W : WX) : List (Option Expr) → List Expr → List (Str × M D) → Prop
  | nil : JPrs X W [] [] []
  | cons {k : Str} {j : Nat} {p : Pos} {e : Expr} {m : M D} {ks : List (Option Expr)} {es : List Expr} {l : List (Str × M D)} (h : JE X W e m) (r : JPrs X W ks es l) : JPrs X W (some (.Constant (.str k) j p) :: ks) (e :: es) ((k, m) :: l)
def trsOf (K : PySem.W.Frag) (mg : Str → Option Value) (W : WX) (l : List (Str × M D)) : List (TE × TE) := l.map fun p => (tC (.str p.1), tE K mg W p.2)
theorem jprs_pps {X : Cx} {W : WX} {pos : Pos} {ks : List (Option Expr)} {es : List Expr} {l : List (Str × M D)} (h : JPrs X W ks es l) : PPs X pos ks es (trsOf X.K X.mg W l) := by
  induction h with
  | nil => exact pps_nil
  | cons h r ih => exact pps_cons pe_str h ih
theorem jprs_fin {K : PySem.W.Frag} {mg : Str → Option Value} {W : WX} {σ : L2.St} : ∀ (l : List (Str × M D)) {ι : List Addr} {ρ : Sl} {S : Store} {H : Hp} {Q : List (V × V) → Hp → Prop}, RS K mg ι S H → RE K ι H ρ σ →
    FinG K mg W (fun ι H ps (qs : List (Key × V)) => RKV K ι H ps qs) σ ι H (mPrs l ρ S) (fun qs H => Q (qs.map fun kv => (kV kv.1, kv.2)) H) → tPairs (trsOf K mg W l) σ H Q
  | [], ι, ρ, S, H, Q, rs, re, f => f ι H [] (Ext.refl _ _) rs .nil
  | (k, m) :: l, ι, ρ, S, H, Q, rs, re, f => by
    unfold mPrs at f
    refine ⟨ι, ρ, S, rs, re, FinG.imp f.bind fun y H1 ⟨d, S1, ι1, x1, rs1, rd1, f1⟩ => ?_⟩
    refine jprs_fin l (ρ := ρ) rs1 (re.mono x1) (FinG.imp (Q := fun qs H2 => ∃ ps S2 ι2, Ext ι1 H1 ι2 H2 ∧ RS K mg ι2 S2 H2 ∧ RKV K ι2 H2 ps qs ∧ FinG K mg W (fun ι H ps (qs : List (Key × V)) => RKV K ι H ps qs) σ ι2 H2 (.ok ((.inr k, d) :: ps) S2) (fun qs H => Q (qs.map fun kv => (kV kv.1, kv.2)) H)) f1.bind fun qs H2 ⟨ps, S2, ι2, x2, rs2, rp, f2⟩ => ?_)
    exact f2 ι2 H2 ((.inr k, y) :: qs) (Ext.refl _ _) rs2 (.cons ⟨rfl, rd1.mono x2⟩ rp)
theorem Mo.sideD {ι : List Addr} {H : Hp} {a : Addr} {ws ws' : List (Key × V)} (h : H a = some (.dK ws)) : Mo ι H ι (upd H a (.dK ws')) :=
  ⟨⟨[], by simp⟩, fun b us e => by rw [upd_ne (fun z => by rw [z, h] at e; cases e)]; exact e, fun b o u e => by rw [upd_ne (fun z => by rw [z, h] at e; cases e)]; exact e⟩
theorem RS.sideD {K : PySem.W.Frag} {mg : Str → Option Value} {ι : List Addr} {S : Store} {H : Hp} {a : Addr} {ws ws' : List (Key × V)} (r : RS K mg ι S H) (h : H a = some (.dK ws)) (n : a ∉ ι) : RS K mg ι S (upd H a (.dK ws')) :=
  ⟨r.len, r.nd, fun i c b e1 e2 => (r.at_ i c b e1 e2).move (Mo.sideD h) (fun o e => by rw [upd_ne (show b ≠ a from fun z => n (by rw [← z]; exact List.mem_of_getElem? e2))]; exact e) fun b fs e => by rw [upd_ne (fun z => by rw [z, h] at e; cases e)]; exact e⟩
section
variable {X : Cx} {W : WX} {pos : Pos}
theorem j_dict {keys : List (Option Expr)} {values : List Expr} {l : List (Str × M D)} (h : JPrs X W keys values l) (hall : keys.all (·.isSome) = true := by rfl) (hl : keys.length = values.length := by rfl) (h0 : keys ≠ [] := by simp) (h15 : keys.length ≤ 15 := by decide) (h16 : l.length ≤ 15 := by decide) : JE X W (.Dict keys values pos) (mDict l) :=
  (pe_disp (jprs_pps h) hall hl h0 h15).imp fun σ H Q want => by
    obtain ⟨ι, ρ, S, rs, re, f⟩ := want
    intro p hp
    have x0 : Ext ι H ι (upd H p (.dK [])) := Ext.new0 hp
    have np : p ∉ ι := rs.fresh hp
    refine jprs_fin l (ρ := ρ) (rs.new0 hp) (re.mono x0) ?_
    unfold mDict at f
    cases hm : mPrs l ρ S with
    | no => rw [hm] at f; exact f.elim
    | exc c v S1 =>
      rw [hm] at f
      exact fun ι' H' C dd fs u y => f ι' H' C dd fs u (x0.trans y)
    | ok ps S1 =>
      rw [hm] at f
      intro ι1 H1 qs x1 rs1 rq
      obtain ⟨e1, n1⟩ := x1.stays upd_same np
      refine ⟨e1, qs, rfl, ?_, ?_⟩
      · have lenP : ∀ (l : List (Str × M D)) (ρ : Sl) (S : Store) (ps : List (Key × D)) (S' : Store), mPrs l ρ S = .ok ps S' → ps.length = l.length := by
          intro l
          induction l with
          | nil => intro ρ S ps S' e; simp only [mPrs, Res.ok.injEq] at e; rw [← e.1]; rfl
          | cons km r ih =>
            intro ρ S ps S' e
            obtain ⟨k, m⟩ := km
            unfold mPrs at e
            cases h1 : m ρ S with
            | ok d S1 =>
              rw [h1] at e
              have e : (mPrs r ρ S1).bind (fun ps S2 => .ok ((.inr k, d) :: ps) S2) = .ok ps S' := e
              cases h2 : mPrs r ρ S1 with
              | ok ps' S2 =>
                rw [h2] at e
                have e : Res.ok ((Sum.inr k, d) :: ps') S2 = Res.ok ps S' := e
                cases e
                rw [List.length_cons, ih _ _ _ _ h2, List.length_cons]
              | exc c v S2 => rw [h2] at e; cases e
              | no => rw [h2] at e; cases e
            | exc c v S1 => rw [h1] at e; cases e
            | no => rw [h1] at e; cases e
        rw [← Paired.length rq, lenP _ _ _ _ _ hm]
        exact h16
      · have f : FinG X.K X.mg W (fun ι H d v => RD X.K ι H d v) σ ι H (.ok (.ref S1.length) (S1 ++ [.dct (mergeD [] ps)])) Q := f
        have rs2 := rs1.sideD (ws' := mergeK [] qs) e1 n1
        have xx : Ext ι H ι1 (upd H1 p (.dK (mergeK [] qs))) := (x0.trans x1).side hp
        refine f (ι1 ++ [p]) _ _ (xx.adopt hp) (rs2.adopt n1 ⟨_, upd_same, ?_⟩) (.ref (by rw [rs2.len, List.getElem?_append_right (Nat.le_refl _), Nat.sub_self]; rfl))
        have r3 : RKV X.K (ι1 ++ [p]) (upd H1 p (.dK (mergeK [] qs))) ps qs := Paired.mapP (RKV.monoM (Mo.sideD e1) rq) fun _ _ h => ⟨h.1, h.2.more _⟩
        exact RKV.merge r3 .nil
theorem j_dict0 : JE X W (.Dict [] [] pos) (fun _ S => .ok (.ref S.length) (S ++ [.dct []])) := pe_dnewK.imp fun σ H Q ⟨ι, ρ, S, rs, re, f⟩ => fun p hp =>
  f (ι ++ [p]) _ _ (Ext.new1 hp) (rs.push hp ⟨[], upd_same, .nil⟩) (.ref (by rw [rs.len, List.getElem?_append_right (Nat.le_refl _), Nat.sub_self]; rfl))
end

/-! ### the law's end -/
section
open PySem.W
theorem law_runG {P : Program} {w : World} {K : PySem.W.Frag} {mg mb : Str → Option Value} {k : Nat} {fa a : Addr} {fd : FuncData} {x : Str} {sp : Sp} {s₁ : Shared} {vs : List Value} {ns : List Int}
    (KX : K.In s₁.heap) (hns : s₁.heap.Ns mainGlobals mg) (hb : s₁.heap.Ns builtinsNs mb) (hbb : ∀ x : Str, x ≠ "__name__" → mb x = bootBuiltins x) (hlim : s₁.heap.NoLimit) (hg : s₁.gens = #[])
    (ha : s₁.heap.get? a = some { cls := .type "list", data := .seq vs.toArray }) (hi : IntsAre vs ns) (hl : ns.length ≤ sizeLine) (hr : Room k callerA)
    (F : ∀ base : Heap, K.In base → base.Ns mainGlobals mg → FnG P w K mg base k fa fd [x] sp) (hbind : ∀ (s : Shared) (u : Value), BindsTo s fd ⟨[u], []⟩ [(x, u)])
    (hsp : ∀ H : Hp, SqF K H a (ns.map V.int) → sp [.ref a] H (fun v _ => v = .bl true) fun _ _ _ => False) :
    codeAny (model P w) callerA (.call (.ref fa) ⟨[.ref a], []⟩) (fun r s' => r = .ok (.ret (.bool true)) ∧ OldK s₁.heap s'.heap ∧ s'.os = s₁.os ∧ AllBare s'.gens) s₁ := by
  have rv := vals_ints hi
  -- an abstract heap that tracks the script or nothing
  have go : ∀ H : Hp, SqF K H a (ns.map V.int) → (∀ b u, H b = some u → b = a ∧ u = .frz { cls := .type "list", data := .seq vs.toArray } (.lst (ns.map V.int)) ∧ K.lookup a = none) →
      codeAny (model P w) callerA (.call (.ref fa) ⟨[.ref a], []⟩) (fun r s' => r = .ok (.ret (.bool true)) ∧ OldK s₁.heap s'.heap ∧ s'.os = s₁.os ∧ AllBare s'.gens) s₁ := fun H hS only => by
    have held : HOk P w H s₁.heap := fun b u e => by
      obtain ⟨rfl, rfl, _⟩ := only b u e
      exact ⟨ha, by rw [List.length_map]; exact hl, vs, _, rv, ha⟩
    have inB : ∀ {b : Addr} {o : Obj}, s₁.heap.get? b = some o → H b = none → (hidT s₁.heap H).get? b = some o := fun e n => hidT_get e n
    have free : ∀ {b : Addr}, b ≠ a → H b = none := fun {b} n => by
      cases q : H b with
      | none => rfl
      | some u => exact absurd (only b u q).1 n
    have notA : ∀ {b : Addr} {o : Obj} {es : Array DictEntry} {ep : Nat}, s₁.heap.get? b = some o → o.data = .dict es ep → H b = none := fun {b o es ep} e d => free fun z => by
      rw [z, ha] at e
      cases e
      cases d
    have nsB : ∀ {b : Addr} {m : Str → Option Value}, s₁.heap.Ns b m → (hidT s₁.heap H).Ns b m := fun {b m} ⟨o, es, ep, e, d, r⟩ => ⟨o, es, ep, inB e (notA e d), d, r⟩
    have inK : K.In (hidT s₁.heap H) := fun b o e => inB (KX b o e) (by
      cases q : H b with
      | none => rfl
      | some u =>
        obtain ⟨z, _, hk⟩ := only b u q
        rw [z, hk] at e; cases e)
    have hM : Mod K mg (hidT s₁.heap H) := ⟨inK, nsB hns, ⟨mb, nsB hb, hbb⟩, let ⟨mc, h1, h2⟩ := hlim; ⟨mc, nsB h1, h2⟩⟩
    have e0 : Env0 P w K mg (hidT s₁.heap H) callerA [] s₁ H := ⟨rfl, hM, fun b o e => of_hidT e, Nat.le_of_eq (hidT_size _ _), trivial, fun b hb => absurd (show b ∈ ([] : List Addr) from hb) (by simp), held, .of_eq hg⟩
    refine codeAny_mono ((F _ inK (nsB hns)).run callerA [] s₁ H ⟨[.ref a], []⟩ [.ref a] [.ref a] _ _ hr rfl e0 (hbind s₁ (.ref a)) (.cons rfl .nil) (hsp H hS)) fun r s' got => ?_
    cases r with
    | error e =>
      obtain ⟨_, _, _, _, _, _, _, _, _, _, _, _, no⟩ := got
      exact no.elim
    | ok fl =>
      cases fl with
      | next => exact False.elim got
      | brk => exact False.elim got
      | cont => exact False.elim got
      | ret u =>
        obtain ⟨v, H', os, bare, un, held', rv', q⟩ := got
        have q' : v = .bl true := q
        subst q'
        obtain rfl : u = Value.bool true := rv'
        refine ⟨rfl, OldK.of_keep fun b o e => ?_, os, bare⟩
        cases q : H b with
        | none => exact un.keep b o e q (by intro z; exact absurd (show b ∈ ([] : List Addr) from z) (by simp)) (by simp)
        | some u =>
          obtain ⟨rfl, rfl, _⟩ := only b u q
          obtain ⟨e1, _⟩ := held b _ q
          obtain ⟨e2, _⟩ := held' b _ (un.frzs b _ _ q)
          rw [e] at e1; cases e1
          exact e2
  cases hk : K.lookup a with
  | some o =>
    have e := KX a o hk
    rw [ha] at e
    cases e
    exact go (fun _ => none) (.inr ⟨_, vs.toArray, _, hk, rfl, rfl, rfl, by rw [List.size_toArray, hi.length]; exact hl, by simpa using rv⟩) fun b u z => by cases z
  | none =>
    refine go (fun b => if b = a then some (.frz { cls := .type "list", data := .seq vs.toArray } (.lst (ns.map V.int))) else none) (.inl ⟨_, if_pos rfl⟩) fun b u z => ?_
    by_cases h : b = a
    · exact ⟨h, (Option.some.inj ((if_pos h).symm.trans z)).symm, hk⟩
    · cases (if_neg h).symm.trans z
/-- the goal that the head leaves, from the law's function: it gives True at every script of these ints -/
theorem walk_G {l : OpenLaw} {n k : Nat} {q : Program} {loose : List Str} {XP : (Str → Option Value) → Heap → Prop} {YP : World → Heap → Prop} {d : DefRec} {K : Params → Frag} {x : Str} {f : List D → Store → Res D}
    (hn : l.most = some n) (hn2 : n ≤ sizeLine) (hdf : d.params.defaults = []) (hr : Room k callerA) (hY : ∀ (w : World) (h : Heap), YP w h → (K w.params).In h)
    (F : ∀ (w : World) (mg : Str → Option Value) (fa : Addr) (h : Heap), (K w.params).In h → h.Ns mainGlobals mg → mg d.name = some (.ref fa) →
      ∃ fd : FuncData, (∀ (s : Shared) (u : Value), BindsTo s fd ⟨[u], []⟩ [(x, u)]) ∧ ∀ base : Heap, (K w.params).In base → base.Ns mainGlobals mg → FnG l.prog w (K w.params) mg base k fa fd [x] (spF (K w.params) mg 1 f))
    (hf : ∀ ns : List Int, ns.length ≤ n → (∀ z ∈ ns, z.natAbs.log2 ≤ 1048576) → ∃ S, f [.fro (ns.map D.int)] [] = .ok (.bl true) S) :
    WalkO q loose XP YP l.row.toRowW d [] (fun f vs => PySem.call f vs) := by
  refine Att.attach_callB hn hdf fun w s₀ s₁ mg mb fa o pm cd doc a vs ns G Y ho hd hcd hmg hobj hints hlen hbits hg => ?_
  have KX := hY w _ Y
  obtain ⟨fd, hb, hF⟩ := F w mg fa _ KX G.T.g hmg
  refine law_runG KX G.T.g G.T.b G.T.builtins G.T.nolimit hg hobj hints (Nat.le_trans hlen hn2) hr hF hb fun H hS => ?_
  obtain ⟨S, e⟩ := hf ns hlen fun z hz => by
    have h := hbits z hz
    unfold Builtin.Int.intBits at h
    split at h
    · rename_i h1
      have e0 : z = 0 := by simpa using h1
      subst e0
      exact Nat.le_trans (by decide) (Nat.zero_le 1048576)
    · omega
  have allI : ∀ ns : List Int, RDs (K w.params) [] H (ns.map D.int) (ns.map V.int) := by
    intro ns
    induction ns with
    | nil => exact .nil
    | cons n ns ih => exact .cons (.int n) ih
  refine ⟨rfl, [], [], [.fro (ns.map D.int)], ⟨rfl, List.nodup_nil, fun i c a e => by simp at e⟩, .cons (.fro hS (allI ns)) .nil, ?_⟩
  rw [e]
  intro ι' H' v _ _ rd
  rw [rd.bl_inv]
end
end MI

set_option Elab.async false
set_option linter.all false
set_option maxRecDepth 100000
set_option maxHeartbeats 4000000
namespace MI
open PySem PySem.Spec PyProof.Rows L2

/-! ### further rules: a compare as a test, y = [..] in one row, a global tuple, chains -/
def mTst (m : M D) : M Bool := fun ρ S => (m ρ S).bind fun d S1 => match isB d with
  | some b => .ok b S1
  | none => .no
theorem tst_fin {K : PySem.W.Frag} {mg : Str → Option Value} {W : WX} {σ : L2.St} {H : Hp} {Q : Bool → Hp → Prop} {m : M D} (h : tT K mg W (mTst m) σ H Q) :
    tE K mg W m σ H fun x H' => ∃ k, x = .bl k ∧ Q k H' := by
  obtain ⟨ι, ρ, S, rs, re, f⟩ := tG_seq (R := fun ι H d v => RD K ι H d v) (m := m) (k := fun _ d S1 => match isB d with
    | some b => Res.ok b S1
    | none => .no) h
  refine ⟨ι, ρ, S, rs, re, f.imp fun x H1 ⟨ι1, ρ1, d, S1, rs1, re1, rd1, f1⟩ => ?_⟩
  cases g : isB d with
  | none => rw [g] at f1; exact f1.elim
  | some b =>
    rw [g] at f1
    rw [isB_some g] at rd1
    exact ⟨b, rd1.bl_inv, f1 ι1 H1 b (Ext.refl _ _) rs1 rfl⟩
section
variable {X : Cx} {W : WX} {a b : Expr} {ma mb : M D} {pos : Pos}
theorem j_tcmp {op : CmpOp} {g : D → D → Store → Res D} (ho : OpR X (compareOp op) (r2 X.K X.mg g)) (hc : Calm2 g) (ha : JE X W a ma) (hb : JE X W b mb) (hm : behindInMarks op b = false) : JT X W (.Compare a [op] [b] pos) (mTst (mOp g ma mb)) :=
  (pt_cmpR ho ha hb hm).imp fun σ H Q h => by
    obtain ⟨ι, ρ, S, rs, re, f⟩ := tG_seq (R := fun ι H d v => RD X.K ι H d v) (m := ma) (k := fun ρ x S1 => (mb ρ S1).bind fun y S2 => g x y S2) (tst_fin h)
    refine ⟨ι, ρ, S, rs, re, f.imp fun x H1 ⟨ι1, ρ1, d, S1, rs1, re1, rd1, f1⟩ => ⟨ι1, ρ1, S1, rs1, re1, FinG.imp f1.bind fun y H2 ⟨e, S2, ι2, y2, rs2, rd2, f2⟩ => ?_⟩⟩
    exact ⟨ι2, S2, d, e, rs2, rd1.mono y2, rd2, f2.calm (hc _ _ _)⟩
end
/-- y = [.. for .. in ..] in one row -/
theorem js_lset {X : Cx} {W : WX} {y : Str} {py : Pos} {elt tg iter : Expr} {ifs : List Expr} {scope : Scope} {pos spos : Pos} {t : Tgt} {mi : M Src} {mc : M Bool} {me : M D} (i : Nat) (own : List (Str × Nat)) (hc : X.calm = true) (hN : X.N.Nodup) (hy : X.N[i]? = some y) (hyl : X.env.scope.names.lookup y = some .local)
    (hsw : swapsWith (.ListComp elt [⟨tg, iter, ifs, 0⟩] scope pos) (some (.Name y py)) spos.line X.env = pure true) (hi : JI X W tg iter mi) (ok : BlkOk X.N X.env.scope scope own)
    (hg : ∀ (s : Shared) (H : Hp) (C : Addr) (cl : List (Str × Addr)) (fp : List Addr), JG (X.blk s H scope (compEnvC scope cl C X.env) fp) tg t) (ht : ∀ (s : Shared) (H : Hp) (C : Addr) (cl : List (Str × Addr)) (fp : List Addr), JC (X.blk s H scope (compEnvC scope cl C X.env) fp) noW ifs mc)
    (he : ∀ (s : Shared) (H : Hp) (C : Addr) (cl : List (Str × Addr)) (fp : List Addr), JE (X.blk s H scope (compEnvC scope cl C X.env) fp) noW elt me) (hsub : ∀ j ∈ t.slots, j ∈ own.map (·.2)) (hs : ∀ x, foldedSetIterable iter X.env x = pure x := by intro _; rfl) :
    JS X W (.Assign [.Name y py] (.ListComp elt [⟨tg, iter, ifs, 0⟩] scope pos) spos) (sAsg (.nm i) (mBox (mLc t (own.map (·.2)) mi mc me))) :=
  (ps_setLc (wi := tI X.K X.mg W mi) (g := tTg X.K X.mg t) (tt := tT X.K X.mg noW mc) (te := tE X.K X.mg noW me) hc hN hy hyl hsw hi ok hg ht he hs).imp fun Dn σ H h => by
    obtain ⟨ι, ρ, S, rs, re, f⟩ := tS_seq (R := fun ι H d v => RD X.K ι H d v) (m := mBox (mLc t (own.map (·.2)) mi mc me)) (k := fun ρ d S1 => match asg (.nm i) d ρ with
      | some ρ' => .next ρ' S1
      | none => .no) h
    refine lc_fin hsub (box_fin ⟨ι, ρ, S, rs, re, f.imp fun x H1 ⟨ι1, ρ1, d, S1, rs1, re1, rd1, f1⟩ => ?_⟩)
    exact f1 ι1 H1 _ (Ext.refl _ _) rs1 (re1.set i rd1)
theorem oexC_mk {K : PySem.W.Frag} {C : Addr} {nm q : Str} {N : Addr} {bs bm : List Value} {sn : List Str} {sub : List Value} {ab : Bool} {col : Option Bool} {dd : Option Addr} {k0 k1 k2 k3 k5 : Option Value}
    (l : K.lookup C = some (excClassObj nm q C N bs bm true sn sub ab col dd k0 k1 k2 k3 k5 "ValueError.__new__")) (r : PySem.HandSPX.refsVE bm = true) (s : PySem.W.findIn K (.ref C) "__setattr__" = some (some (.builtin "object.__setattr__")))
    (e : PySem.W.subIn K (.ref C) (.type "BaseException") = some true) (t : PySem.W.typeIn K (.ref C) = some (.type "type")) (k : PySem.W.keepIn K (.ref C) = true) : OexC K C := ⟨⟨_, _, _, _, _, _, _, _, _, _, _, _, _, _, _, l, r⟩, s, e, t, k⟩
section
variable {K : PySem.W.Frag} {t : Value} {C : Addr} {b : Bool}
theorem kitCls_mk (h2 : PySem.W.isClsIn K C = true) (h3 : PySem.W.typeIn K (.ref C) = some (.type "type")) (h4 : PySem.W.subIn K t (.ref C) = some b) : PySem.W.kitCls K t (.ref C) = some b := by
  have e2 : ((PySem.W.clsIn K C).isSome && PySem.W.typeIn K (.ref C) == some (.type "type")) = true := by
    have h2' : (PySem.W.clsIn K C).isSome = true := h2
    rw [h2', h3] <;> rfl
  show (if ((PySem.W.clsIn K C).isSome && PySem.W.typeIn K (.ref C) == some (.type "type")) = true then PySem.W.subIn K t (.ref C) else none) = some b
  rw [if_pos e2]
  exact h4
theorem exm_mk (h1 : PySem.W.subIn K (.ref C) (.type "BaseException") = some true) (h2 : PySem.W.isClsIn K C = true) (h3 : PySem.W.typeIn K (.ref C) = some (.type "type")) (h4 : PySem.W.subIn K t (.ref C) = some b) : PySem.W.exmOne K t (.ref C) = some b := by
  unfold PySem.W.exmOne
  rw [if_pos (by rw [h1]; rfl)]
  exact kitCls_mk h2 h3 h4
theorem kit_self : PySem.W.kitOne K t t = some true := if_pos (beq_self_eq_true t)
theorem kit_mk (hn : (t == .ref C) = false) (h2 : PySem.W.isClsIn K C = true) (h3 : PySem.W.typeIn K (.ref C) = some (.type "type")) (h4 : PySem.W.subIn K t (.ref C) = some b) : PySem.W.kitOne K t (.ref C) = some b := by
  unfold PySem.W.kitOne
  rw [if_neg (by rw [hn]; decide)]
  exact kitCls_mk h2 h3 h4
end
def blkB (N : List Str) (sc scope : List (Str × NameKind)) (own : List (Str × Nat)) : Bool :=
  scope.all (fun y => decide (scope.lookup y.1 = some y.2)) && own.all (fun p => decide (N[p.2]? = some p.1)) && scope.all (fun y => !decide (y.2 = .free) || decide (sc.lookup y.1 = some .cell) || decide (sc.lookup y.1 = some .free)) &&
    scope.all (fun y => !(decide (y.2 = .local) || decide (y.2 = .cell)) || decide (y.1 ∈ own.map (·.1)) || decide (y.1 ∉ N))
theorem blk_ok {N : List Str} {sc scope : Scope} {own : List (Str × Nat)} (hk : scope.kind = .function) (h : blkB N sc.names scope.names own = true) : BlkOk N sc scope own := by
  unfold blkB at h
  simp only [Bool.and_eq_true, List.all_eq_true, Bool.or_eq_true, Bool.not_eq_true', decide_eq_true_eq, decide_eq_false_iff_not] at h
  obtain ⟨⟨⟨h1, h2⟩, h3⟩, h4⟩ := h
  refine ⟨hk, h1, h2, fun y hy e => ?_, fun y hy e => ?_⟩
  · rcases h3 y hy with (z | z) | z
    · exact absurd e z
    · exact .inl z
    · exact .inr z
  · rcases h4 y hy with (z | z) | z
    · rcases e with e | e
      · rw [e] at z; exact absurd z (by decide)
      · rw [e] at z; exact absurd z (by decide)
    · exact .inl z
    · exact .inr z
/-- a tuple of the written part -/
theorem j_globT {X : Cx} {W : WX} {x : Str} {pos : Pos} {a : Addr} {vs : List V} {ds : List D} (hm : X.mg x = some (.ref a)) (ht : ∀ H : Hp, SqT X.K H a vs) (hr : ∀ H : Hp, RDs X.K [] H ds vs) (hg : Gl X x := by rfl) (hd : (x == ("__debug__" : Str)) = false := by decide) : JE X W (.Name x pos) (mC (.tup ds)) :=
  (pe_glob (v := V.ref a) hg hm rfl hd).imp fun σ H Q ⟨ι, ρ, S, rs, re, f⟩ => f ι H _ (Ext.refl _ _) rs (.tup (ht H) ((hr H).monoM ⟨⟨ι, by simp⟩, fun _ _ h => h, fun _ _ _ h => h⟩))
/-- a tuple of the written part, from its object -/
theorem sqT_obj {K : PySem.W.Frag} {H : Hp} {a : Addr} {od : Option Addr} {its : Array Value} {n : Nat} {sl : Array (Option Value)} {vs : List V} (l : K.lookup a = some ⟨.type "tuple", od, .seq its n, sl⟩) (r : Vals vs its.toList) (hl : its.size ≤ sizeLine) : SqT K H a vs :=
  .inr ⟨_, its, n, l, rfl, rfl, hl, r⟩
theorem rds_ints {K : PySem.W.Frag} {ι : List Addr} {H : Hp} : ∀ ns : List Int, RDs K ι H (ns.map D.int) (ns.map V.int)
  | [] => .nil
  | n :: ns => .cons (.int n) (rds_ints ns)
end MI

set_option Elab.async false
set_option linter.all false
set_option maxRecDepth 100000
set_option maxHeartbeats 4000000
namespace MI.K01
open PySem PySem.Spec PyProof.Rows L2 MI
abbrev topS (i : Nat) : Stmt := PySem.Challenge.pw_caskyears_k01_fractions_in_lowest_terms.main.body.getD i (.Pass ⟨0, 0, 0, 0⟩)
def errNames : List Str := ["InvalidNumber", "InvalidFraction"]
def sub_InvalidFraction (c : Str) : Bool := c == "InvalidFraction"
def sub_InvalidNumber (c : Str) : Bool := c == "InvalidNumber"
def cat_CaskError (c : Str) : Option Bool := if c ∈ errNames then some (true) else none
def d_ZERO : List D := [.int 0, .int 1]
def mDict0 : M D := fun _ S => .ok (.ref S.length) (S ++ [.dct []])
theorem bt_abs : bootBuiltins "abs" = some (.builtin "abs") := by decide +kernel
theorem bt_all : bootBuiltins "all" = some (.builtin "all") := by decide +kernel
theorem bt_bool : bootBuiltins "bool" = some (.type "bool") := by decide +kernel
theorem bt_int : bootBuiltins "int" = some (.type "int") := by decide +kernel
theorem bt_isinstance : bootBuiltins "isinstance" = some (.builtin "isinstance") := by decide +kernel
theorem bt_len : bootBuiltins "len" = some (.builtin "len") := by decide +kernel
theorem bt_list : bootBuiltins "list" = some (.type "list") := by decide +kernel
theorem bt_max : bootBuiltins "max" = some (.builtin "max") := by decide +kernel
theorem bt_repr : bootBuiltins "repr" = some (.builtin "repr") := by decide +kernel
theorem bt_tuple : bootBuiltins "tuple" = some (.type "tuple") := by decide +kernel
def b_drop : MS := sSeq (sIf (mTst (mOp gGt (mOp gIx (mV 0) (mC (.int 0))) (mC (.int 0)))) (sSeq (sAsg (.nm 2) (mOp gMod (mApp gInt (mCons (mOp gIx (mV 0) (mC (.int 0))) (mNil))) (mV 1))) (sSeq (sSet (mV 0) (mC (.int 0)) (mOp gDiv (mOp gIx (mV 0) (mC (.int 0))) (mV 1))) (sRet (mV 2)))) (sPass)) (sSeq (sSet (mV 0) (mC (.int 2)) (mOp gAdd (mOp gIx (mV 0) (mC (.int 2))) (mC (.int 1)))) (sSeq (sAsg (.nm 3) (mOp gMod (mApp gInt (mCons (mOp gPow (mOp gAdd (mOp gIx (mV 0) (mC (.int 1))) (mOp gMul (mOp gIx (mV 0) (mC (.int 2))) (mC (.int 17624813)))) (mC (.int 3))) (mNil))) (mOp gAdd (mOp gPow (mC (.int 10)) (mC (.int 27))) (mC (.int 103))))) (sRet (mOp gMod (mOp gDiv (mOp gMod (mApp gInt (mCons (mOp gAdd (mOp gPow (mV 3) (mC (.int 2))) (mOp gDiv (mV 3) (mC (.int 7907)))) (mNil))) (mOp gAdd (mOp gPow (mC (.int 10)) (mC (.int 23))) (mC (.int 117)))) (mC (.int 10007))) (mV 1)))))
def f_drop : List D → Store → Res D := fnOf 4 b_drop
def b_size : MS := sSeq (sAsg (.nm 1) (mApp f_drop (mCons (mV 0) (mCons (mC (.int 6)) (mNil))))) (sSeq (sIf (mTst (mOp gEq (mV 1) (mC (.int 5)))) (sRet (mOp gAdd (mOp gAdd (mOp gMul (mApp f_drop (mCons (mV 0) (mCons (mOp gPow (mC (.int 10)) (mC (.int 13))) (mNil)))) (mOp gPow (mC (.int 10)) (mC (.int 26)))) (mOp gMul (mApp f_drop (mCons (mV 0) (mCons (mOp gPow (mC (.int 10)) (mC (.int 13))) (mNil)))) (mOp gPow (mC (.int 10)) (mC (.int 13))))) (mApp f_drop (mCons (mV 0) (mCons (mOp gPow (mC (.int 10)) (mC (.int 13))) (mNil)))))) (sPass)) (sRet (mApp f_drop (mCons (mV 0) (mCons (mOp gIx (mApp gLst (mCons (mC (.int 2)) (mCons (mC (.int 4)) (mCons (mC (.int 13)) (mCons (mC (.int 1000)) (mCons (mOp gPow (mC (.int 10)) (mC (.int 9))) (mNil))))))) (mV 1)) (mNil))))))
def f_size : List D → Store → Res D := fnOf 2 b_size
def b_low : MS := sSeq (sAsg (.nm 2) (mApp gAbs (mCons (mV 0) (mNil)))) (sSeq (sAsg (.nm 3) (mV 1)) (sSeq (sFor (.nm 4) (mRng1 (mC (.int 20000))) (sSeq (sIf (mTst (mOp gEq (mV 3) (mC (.int 0)))) (sBrk) (sPass)) (sPar 2 3 (mV 3) (mOp gMod (mApp gInt (mCons (mV 2) (mNil))) (mV 3))))) (sRet (mApp gTup (mCons (mOp gDiv (mV 0) (mV 2)) (mCons (mOp gDiv (mV 1) (mV 2)) (mNil)))))))
def f_low : List D → Store → Res D := fnOf 5 b_low
def b_draw : MS := sSeq (sAsg (.nm 1) (mApp f_size (mCons (mV 0) (mNil)))) (sSeq (sIf (mTst (mOp gEq (mApp f_drop (mCons (mV 0) (mCons (mC (.int 3)) (mNil)))) (mC (.int 0)))) (sAsg (.nm 1) (mOp gSub (mC (.int 0)) (mV 1))) (sPass)) (sRet (mApp f_low (mCons (mV 1) (mCons (mOp gAdd (mC (.int 1)) (mApp f_size (mCons (mV 0) (mNil)))) (mNil))))))
def f_draw : List D → Store → Res D := fnOf 2 b_draw
def b_second : MS := sSeq (sAsg (.nm 2) (mApp f_drop (mCons (mV 0) (mCons (mC (.int 6)) (mNil))))) (sSeq (sIf (mTst (mOp gEq (mV 2) (mC (.int 0)))) (sRet (mV 1)) (sPass)) (sSeq (sIf (mTst (mOp gEq (mV 2) (mC (.int 1)))) (sRet (mApp gTup (mCons (mOp gSub (mC (.int 0)) (mOp gIx (mV 1) (mC (.int 0)))) (mCons (mOp gIx (mV 1) (mC (.int 1))) (mNil))))) (sPass)) (sSeq (sIf (mAnd (mTst (mOp gEq (mV 2) (mC (.int 2)))) (mTst (mOp gGt (mOp gIx (mV 1) (mC (.int 0))) (mC (.int 0))))) (sRet (mApp gTup (mCons (mOp gIx (mV 1) (mC (.int 1))) (mCons (mOp gIx (mV 1) (mC (.int 0))) (mNil))))) (sPass)) (sSeq (sIf (mTst (mOp gEq (mV 2) (mC (.int 3)))) (sRet (mApp f_low (mCons (mOp gAdd (mOp gIx (mV 1) (mC (.int 0))) (mOp gMul (mApp f_drop (mCons (mV 0) (mCons (mC (.int 2)) (mNil)))) (mOp gIx (mV 1) (mC (.int 1))))) (mCons (mOp gIx (mV 1) (mC (.int 1))) (mNil))))) (sPass)) (sRet (mApp f_draw (mCons (mV 0) (mNil))))))))
def f_second : List D → Store → Res D := fnOf 3 b_second
def b_odd : MS := sSeq (sAsg (.nm 2) (mOp gAdd (mC (.int 2)) (mApp f_drop (mCons (mV 0) (mCons (mC (.int 9)) (mNil)))))) (sSeq (sAsg (.tp [.nm 3, .nm 4]) (mV 1)) (sSeq (sAsg (.nm 5) (mApp gLst (mCons (mApp gTup (mCons (mOp gMul (mV 3) (mV 2)) (mCons (mOp gMul (mV 4) (mV 2)) (mNil)))) (mCons (mApp gTup (mCons (mV 3) (mCons (mC (.int 0)) (mNil)))) (mCons (mApp gTup (mCons (mV 3) (mCons (mOp gSub (mC (.int 0)) (mV 4)) (mNil)))) (mCons (mApp gTup (mCons (mV 3) (mNil))) (mCons (mApp gTup (mCons (mV 3) (mCons (mV 4) (mCons (mC (.int 1)) (mNil))))) (mCons (mApp gTup (mNil)) (mNil))))))))) (sSeq (sAsg (.nm 6) (mApp gLst (mCons (mApp gTup (mCons (mC (.bl true)) (mCons (mV 4) (mNil)))) (mCons (mApp gTup (mCons (mV 3) (mCons (mC (.bl true)) (mNil)))) (mCons (mApp gTup (mCons (mC .non) (mCons (mC (.int 1)) (mNil)))) (mCons (mApp gTup (mCons (mV 3) (mCons (mC (.str "2")) (mNil)))) (mCons (mApp gTup (mCons (mApp gTup (mCons (mV 3) (mCons (mV 4) (mNil)))) (mCons (mC (.int 1)) (mNil)))) (mCons (mApp gTup (mCons (mApp gLst (mCons (mV 3) (mNil))) (mCons (mV 4) (mNil)))) (mNil))))))))) (sSeq (sAsg (.nm 7) (mApp gLst (mCons (mApp gLst (mCons (mV 3) (mCons (mV 4) (mNil)))) (mCons (mV 3) (mCons (mC (.bl true)) (mCons (mC .non) (mCons (mC (.str "1/2")) (mCons (mDict [("above", mV 3)]) (mCons (mApp gLst (mNil)) (mCons (mDict0) (mCons (mC (.str "")) (mNil)))))))))))) (sSeq (sAsg (.nm 8) (mOp gAdd (mOp gAdd (mV 5) (mV 6)) (mV 7))) (sRet (mOp gIx (mV 8) (mApp f_drop (mCons (mV 0) (mCons (mApp gLen (mCons (mV 8) (mNil))) (mNil)))))))))))
def f_odd : List D → Store → Res D := fnOf 9 b_odd
def b_is_integer : MS := sRet (mAndV (mUn (gIsTy "int") (mV 0)) (mNotV (mUn (gIsTy "bool") (mV 0))))
def f_is_integer : List D → Store → Res D := fnOf 1 b_is_integer
def b_is_fraction : MS := sSeq (sIf (mOr (mNot (mTru (mUn (gIsTy "tuple") (mV 0)))) (mTst (mOp gNe (mApp gLen (mCons (mV 0) (mNil))) (mC (.int 2))))) (sRet (mC (.bl false))) (sPass)) (sSeq (sIf (mOr (mNot (mTru (mApp f_is_integer (mCons (mOp gIx (mV 0) (mC (.int 0))) (mNil))))) (mNot (mTru (mApp f_is_integer (mCons (mOp gIx (mV 0) (mC (.int 1))) (mNil)))))) (sRet (mC (.bl false))) (sPass)) (sRet (mAndV (mOp gGe (mOp gIx (mV 0) (mC (.int 1))) (mC (.int 1))) (mOp gEq (mApp gGcd (mCons (mOp gIx (mV 0) (mC (.int 0))) (mCons (mOp gIx (mV 0) (mC (.int 1))) (mNil)))) (mC (.int 1))))))
def f_is_fraction : List D → Store → Res D := fnOf 1 b_is_fraction
def b_built_anew (rec : List D → Store → Res D) : MS := sSeq (sIf (mTru (mUn (gIsTy "list") (mV 0))) (sRet (mBox (mLc (.nm 1) [1] (mSrc (mV 0)) (mYes) (mApp rec (mCons (mV 1) (mNil)))))) (sPass)) (sSeq (sIf (mTru (mUn (gIsTy "tuple") (mV 0))) (sRet (mL gTupL (mLc (.nm 1) [1] (mSrc (mV 0)) (mYes) (mApp rec (mCons (mV 1) (mNil)))))) (sPass)) (sRet (mV 0)))
def f_built_anew : Nat → List D → Store → Res D
  | 0 => fun _ _ => .no
  | n + 1 => fnOf 2 (b_built_anew (f_built_anew n))
def b_check_fraction : MS := sIf (mNot (mTru (mApp f_is_fraction (mCons (mV 0) (mNil))))) (sRaise "InvalidFraction" (mApp (f_built_anew 8) (mCons (mV 0) (mNil)))) (sPass)
def f_check_fraction : List D → Store → Res D := fnOf 1 b_check_fraction
def b_reduced : MS := sSeq (sAsg (.nm 2) (mApp gGcd (mCons (mV 0) (mCons (mV 1) (mNil))))) (sSeq (sIf (mTst (mOp gLt (mV 1) (mC (.int 0)))) (sAsg (.nm 2) (mUn gNeg (mV 2))) (sPass)) (sRet (mApp gTup (mCons (mOp gDiv (mV 0) (mV 2)) (mCons (mOp gDiv (mV 1) (mV 2)) (mNil))))))
def f_reduced : List D → Store → Res D := fnOf 3 b_reduced
def b_added : MS := sRet (mApp f_reduced (mCons (mOp gAdd (mOp gMul (mOp gIx (mV 0) (mC (.int 0))) (mOp gIx (mV 1) (mC (.int 1)))) (mOp gMul (mOp gIx (mV 1) (mC (.int 0))) (mOp gIx (mV 0) (mC (.int 1))))) (mCons (mOp gMul (mOp gIx (mV 0) (mC (.int 1))) (mOp gIx (mV 1) (mC (.int 1)))) (mNil))))
def f_added : List D → Store → Res D := fnOf 2 b_added
def b_plus : MS := sSeq (sExpr (mApp f_check_fraction (mCons (mV 0) (mNil)))) (sSeq (sExpr (mApp f_check_fraction (mCons (mV 1) (mNil)))) (sRet (mApp f_added (mCons (mV 0) (mCons (mV 1) (mNil))))))
def f_plus : List D → Store → Res D := fnOf 2 b_plus
def b_lessened : MS := sRet (mApp f_reduced (mCons (mOp gSub (mOp gMul (mOp gIx (mV 0) (mC (.int 0))) (mOp gIx (mV 1) (mC (.int 1)))) (mOp gMul (mOp gIx (mV 1) (mC (.int 0))) (mOp gIx (mV 0) (mC (.int 1))))) (mCons (mOp gMul (mOp gIx (mV 0) (mC (.int 1))) (mOp gIx (mV 1) (mC (.int 1)))) (mNil))))
def f_lessened : List D → Store → Res D := fnOf 2 b_lessened
def b_less : MS := sSeq (sExpr (mApp f_check_fraction (mCons (mV 0) (mNil)))) (sSeq (sExpr (mApp f_check_fraction (mCons (mV 1) (mNil)))) (sRet (mApp f_lessened (mCons (mV 0) (mCons (mV 1) (mNil))))))
def f_less : List D → Store → Res D := fnOf 2 b_less
def b_multiplied : MS := sRet (mApp f_reduced (mCons (mOp gMul (mOp gIx (mV 0) (mC (.int 0))) (mOp gIx (mV 1) (mC (.int 0)))) (mCons (mOp gMul (mOp gIx (mV 0) (mC (.int 1))) (mOp gIx (mV 1) (mC (.int 1)))) (mNil))))
def f_multiplied : List D → Store → Res D := fnOf 2 b_multiplied
def b_times : MS := sSeq (sExpr (mApp f_check_fraction (mCons (mV 0) (mNil)))) (sSeq (sExpr (mApp f_check_fraction (mCons (mV 1) (mNil)))) (sRet (mApp f_multiplied (mCons (mV 0) (mCons (mV 1) (mNil))))))
def f_times : List D → Store → Res D := fnOf 2 b_times
def b_divided : MS := sRet (mApp f_reduced (mCons (mOp gMul (mOp gIx (mV 0) (mC (.int 0))) (mOp gIx (mV 1) (mC (.int 1)))) (mCons (mOp gMul (mOp gIx (mV 0) (mC (.int 1))) (mOp gIx (mV 1) (mC (.int 0)))) (mNil))))
def f_divided : List D → Store → Res D := fnOf 2 b_divided
def b_over : MS := sSeq (sExpr (mApp f_check_fraction (mCons (mV 0) (mNil)))) (sSeq (sExpr (mApp f_check_fraction (mCons (mV 1) (mNil)))) (sSeq (sIf (mTst (mOp gEq (mV 1) (mC (.tup d_ZERO)))) (sRaise "InvalidFraction" (mApp (f_built_anew 8) (mCons (mV 1) (mNil)))) (sPass)) (sRet (mApp f_divided (mCons (mV 0) (mCons (mV 1) (mNil)))))))
def f_over : List D → Store → Res D := fnOf 2 b_over
def b_order : MS := sSeq (sPar 2 3 (mOp gMul (mOp gIx (mV 0) (mC (.int 0))) (mOp gIx (mV 1) (mC (.int 1)))) (mOp gMul (mOp gIx (mV 1) (mC (.int 0))) (mOp gIx (mV 0) (mC (.int 1))))) (sSeq (sIf (mTst (mOp gLt (mV 2) (mV 3))) (sRet (mUn gNeg (mC (.int 1)))) (sPass)) (sRet (mIf (mTst (mOp gGt (mV 2) (mV 3))) (mC (.int 1)) (mC (.int 0)))))
def f_order : List D → Store → Res D := fnOf 4 b_order
def b_compared : MS := sSeq (sExpr (mApp f_check_fraction (mCons (mV 0) (mNil)))) (sSeq (sExpr (mApp f_check_fraction (mCons (mV 1) (mNil)))) (sRet (mApp f_order (mCons (mV 0) (mCons (mV 1) (mNil))))))
def f_compared : List D → Store → Res D := fnOf 2 b_compared
def b_total : MS := sSeq (sAsg (.nm 1) (mC (.tup d_ZERO))) (sSeq (sFor (.nm 2) (mSrc (mV 0)) (sAsg (.nm 1) (mApp f_added (mCons (mV 1) (mCons (mV 2) (mNil)))))) (sRet (mV 1)))
def f_total : List D → Store → Res D := fnOf 3 b_total
def b_sum_of : MS := sSeq (sFor (.nm 1) (mSrc (mV 0)) (sExpr (mApp f_check_fraction (mCons (mV 1) (mNil))))) (sRet (mApp f_total (mCons (mV 0) (mNil))))
def f_sum_of : List D → Store → Res D := fnOf 2 b_sum_of
def b_fraction : MS := sSeq (sIf (mTst (mOp gEq (mV 1) (mC (.int 0)))) (sRaise "InvalidNumber" (mV 1)) (sPass)) (sRet (mApp f_reduced (mCons (mV 0) (mCons (mV 1) (mNil)))))
def f_fraction : List D → Store → Res D := fnOf 2 b_fraction
def b_caught : MS := sSeq (sAsg (.nm 4) (mC .non)) (sSeq (sTry cat_CaskError 5 (sIf (mTst (mOp gEq (mV 0) (mC (.int 0)))) (sExpr (mApp f_plus (mCons (mV 1) (mCons (mV 2) (mNil))))) (sIf (mTst (mOp gEq (mV 0) (mC (.int 1)))) (sExpr (mApp f_less (mCons (mV 1) (mCons (mV 2) (mNil))))) (sIf (mTst (mOp gEq (mV 0) (mC (.int 2)))) (sExpr (mApp f_times (mCons (mV 1) (mCons (mV 2) (mNil))))) (sIf (mTst (mOp gEq (mV 0) (mC (.int 3)))) (sExpr (mApp f_over (mCons (mV 1) (mCons (mV 2) (mNil))))) (sIf (mTst (mOp gEq (mV 0) (mC (.int 4)))) (sExpr (mApp f_compared (mCons (mV 1) (mCons (mV 2) (mNil))))) (sIf (mTst (mOp gEq (mV 0) (mC (.int 5)))) (sExpr (mApp f_sum_of (mCons (mOp gAdd (mOp gAdd (mOp gAdd (mV 3) (mApp gLst (mCons (mV 1) (mNil)))) (mV 3)) (mApp gLst (mCons (mV 2) (mNil)))) (mNil)))) (sExpr (mApp f_fraction (mCons (mV 1) (mCons (mV 2) (mNil))))))))))) (sAsg (.nm 4) (mV 5))) (sRet (mV 4)))
def f_caught : List D → Store → Res D := fnOf 6 b_caught
def b_refused : MS := sSeq (sAsg (.nm 5) (mApp f_caught (mCons (mV 0) (mCons (mV 1) (mCons (mV 2) (mCons (mV 3) (mNil))))))) (sRet (mAndV (mIsE errNames sub_InvalidFraction (mV 5)) (mOp gEq (mApp gRepr (mCons (mVal errNames (mV 5)) (mNil))) (mApp gRepr (mCons (mV 4) (mNil))))))
def f_refused : List D → Store → Res D := fnOf 6 b_refused
def b_is_from_zero : MS := sRet (mAndV (mApp f_is_fraction (mCons (mV 0) (mNil))) (mOp gGe (mOp gIx (mV 0) (mC (.int 0))) (mC (.int 0))))
def f_is_from_zero : List D → Store → Res D := fnOf 1 b_is_from_zero
def b_is_share : MS := sRet (mAndV (mApp f_is_from_zero (mCons (mV 0) (mNil))) (mOp gLe (mOp gIx (mV 0) (mC (.int 0))) (mOp gIx (mV 0) (mC (.int 1)))))
def f_is_share : List D → Store → Res D := fnOf 1 b_is_share
def b_refusals : MS := sSeq (sAsg (.nm 4) (mApp f_odd (mCons (mV 0) (mCons (mV 1) (mNil))))) (sSeq (sIf (mOr (mTst (mOp (gIs true) (mApp f_is_fraction (mCons (mV 4) (mNil))) (mC (.bl false)))) (mTst (mOp (gIs true) (mApp f_is_share (mCons (mV 4) (mNil))) (mC (.bl false))))) (sRet (mC (.bl false))) (sPass)) (sSeq (sAsg (.nm 5) (mApp f_drop (mCons (mV 0) (mCons (mC (.int 6)) (mNil))))) (sSeq (sIf (mOr (mNot (mTru (mApp f_refused (mCons (mV 5) (mCons (mV 4) (mCons (mV 2) (mCons (mV 3) (mCons (mV 4) (mNil))))))))) (mNot (mTru (mApp f_refused (mCons (mV 5) (mCons (mV 1) (mCons (mV 4) (mCons (mV 3) (mCons (mV 4) (mNil)))))))))) (sRet (mC (.bl false))) (sPass)) (sSeq (sIf (mNot (mTru (mApp f_refused (mCons (mV 5) (mCons (mV 4) (mCons (mApp f_odd (mCons (mV 0) (mCons (mV 2) (mNil)))) (mCons (mV 3) (mCons (mV 4) (mNil))))))))) (sRet (mC (.bl false))) (sPass)) (sSeq (sIf (mOr (mNot (mTru (mApp f_refused (mCons (mC (.int 3)) (mCons (mV 4) (mCons (mApp gTup (mCons (mC (.int 0)) (mCons (mC (.int 1)) (mNil)))) (mCons (mApp gLst (mNil)) (mCons (mV 4) (mNil))))))))) (mNot (mTru (mApp f_refused (mCons (mC (.int 3)) (mCons (mV 1) (mCons (mApp gTup (mCons (mC (.int 0)) (mCons (mC (.int 1)) (mNil)))) (mCons (mApp gLst (mNil)) (mCons (mApp gTup (mCons (mC (.int 0)) (mCons (mC (.int 1)) (mNil)))) (mNil)))))))))) (sRet (mC (.bl false))) (sPass)) (sRet (mOp (gIs false) (mApp f_caught (mCons (mOp gMod (mApp gInt (mCons (mV 5) (mNil))) (mC (.int 3))) (mCons (mV 1) (mCons (mV 2) (mCons (mV 3) (mNil)))))) (mC .non))))))))
def f_refusals : List D → Store → Res D := fnOf 6 b_refusals
def b_same (rec : List D → Store → Res D) : MS := sSeq (sIf (mTru (mUn (gIsTy "tuple") (mV 1))) (sSeq (sIf (mOr (mNot (mTru (mUn (gIsTy "tuple") (mV 0)))) (mTst (mOp gNe (mApp gLen (mCons (mV 0) (mNil))) (mApp gLen (mCons (mV 1) (mNil)))))) (sRet (mC (.bl false))) (sPass)) (sRet (mL gAll (mLc (.nm 2) [2] (mRng1 (mApp gLen (mCons (mV 1) (mNil)))) (mYes) (mApp rec (mCons (mOp gIx (mV 0) (mV 2)) (mCons (mOp gIx (mV 1) (mV 2)) (mNil)))))))) (sPass)) (sSeq (sIf (mTru (mUn (gIsTy "bool") (mV 1))) (sRet (mAndV (mUn (gIsTy "bool") (mV 0)) (mOp gEq (mV 0) (mV 1)))) (sPass)) (sRet (mAndV (mUn (gIsTy "int") (mV 0)) (mAndV (mNotV (mUn (gIsTy "bool") (mV 0))) (mOp gEq (mV 0) (mV 1))))))
def f_same : Nat → List D → Store → Res D
  | 0 => fun _ _ => .no
  | n + 1 => fnOf 3 (b_same (f_same n))
def b_told : MS := sSeq (sAsg (.nm 1) (mAndV (mOp gLe (mC (.int 0)) (mOp gIx (mV 0) (mC (.int 0)))) (mOp gLe (mOp gIx (mV 0) (mC (.int 0))) (mOp gIx (mV 0) (mC (.int 1)))))) (sRet (mAndV (mOp (gIs false) (mApp f_is_fraction (mCons (mV 0) (mNil))) (mC (.bl true))) (mApp (f_same 8) (mCons (mApp f_is_share (mCons (mV 0) (mNil))) (mCons (mV 1) (mNil))))))
def f_told : List D → Store → Res D := fnOf 2 b_told
def b_quotient : MS := sSeq (sAsg (.nm 2) (mOp gMul (mOp gIx (mV 0) (mC (.int 0))) (mOp gIx (mV 1) (mC (.int 1))))) (sSeq (sAsg (.nm 3) (mOp gMul (mOp gIx (mV 0) (mC (.int 1))) (mOp gIx (mV 1) (mC (.int 0))))) (sSeq (sIf (mTst (mOp gLt (mV 3) (mC (.int 0)))) (sRet (mApp f_low (mCons (mOp gSub (mC (.int 0)) (mV 2)) (mCons (mOp gSub (mC (.int 0)) (mV 3)) (mNil))))) (sPass)) (sRet (mApp f_low (mCons (mV 2) (mCons (mV 3) (mNil)))))))
def f_quotient : List D → Store → Res D := fnOf 4 b_quotient
def b_worked : MS := sSeq (sAsg (.nm 2) (mOp gMul (mOp gIx (mV 0) (mC (.int 0))) (mOp gIx (mV 1) (mC (.int 1))))) (sSeq (sAsg (.nm 3) (mOp gMul (mOp gIx (mV 1) (mC (.int 0))) (mOp gIx (mV 0) (mC (.int 1))))) (sSeq (sIf (mNot (mTru (mApp (f_same 8) (mCons (mApp f_plus (mCons (mV 0) (mCons (mV 1) (mNil)))) (mCons (mApp f_low (mCons (mOp gAdd (mV 2) (mV 3)) (mCons (mOp gMul (mOp gIx (mV 0) (mC (.int 1))) (mOp gIx (mV 1) (mC (.int 1)))) (mNil)))) (mNil)))))) (sRet (mC (.bl false))) (sPass)) (sSeq (sIf (mNot (mTru (mApp (f_same 8) (mCons (mApp f_less (mCons (mV 0) (mCons (mV 1) (mNil)))) (mCons (mApp f_low (mCons (mOp gSub (mV 2) (mV 3)) (mCons (mOp gMul (mOp gIx (mV 0) (mC (.int 1))) (mOp gIx (mV 1) (mC (.int 1)))) (mNil)))) (mNil)))))) (sRet (mC (.bl false))) (sPass)) (sSeq (sIf (mNot (mTru (mApp (f_same 8) (mCons (mApp f_times (mCons (mV 0) (mCons (mV 1) (mNil)))) (mCons (mApp f_low (mCons (mOp gMul (mOp gIx (mV 0) (mC (.int 0))) (mOp gIx (mV 1) (mC (.int 0)))) (mCons (mOp gMul (mOp gIx (mV 0) (mC (.int 1))) (mOp gIx (mV 1) (mC (.int 1)))) (mNil)))) (mNil)))))) (sRet (mC (.bl false))) (sPass)) (sSeq (sIf (mAnd (mTst (mOp gNe (mOp gIx (mV 1) (mC (.int 0))) (mC (.int 0)))) (mNot (mTru (mApp (f_same 8) (mCons (mApp f_over (mCons (mV 0) (mCons (mV 1) (mNil)))) (mCons (mApp f_quotient (mCons (mV 0) (mCons (mV 1) (mNil)))) (mNil))))))) (sRet (mC (.bl false))) (sPass)) (sRet (mApp (f_same 8) (mCons (mApp f_compared (mCons (mV 0) (mCons (mV 1) (mNil)))) (mCons (mOp gSub (mApp gInt (mCons (mOp gGt (mV 2) (mV 3)) (mNil))) (mApp gInt (mCons (mOp gLt (mV 2) (mV 3)) (mNil)))) (mNil))))))))))
def f_worked : List D → Store → Res D := fnOf 4 b_worked
def b_made : MS := sSeq (sAsg (.nm 2) (mOp gMul (mOp gIx (mV 1) (mC (.int 0))) (mOp gAdd (mC (.int 1)) (mApp f_drop (mCons (mV 0) (mCons (mC (.int 7)) (mNil))))))) (sSeq (sAsg (.nm 3) (mOp gMul (mOp gAdd (mC (.int 1)) (mApp f_size (mCons (mV 0) (mNil)))) (mOp gIx (mApp gLst (mCons (mC (.int 1)) (mCons (mOp gSub (mC (.int 0)) (mC (.int 1))) (mNil)))) (mApp f_drop (mCons (mV 0) (mCons (mC (.int 2)) (mNil))))))) (sSeq (sIf (mNot (mTru (mApp (f_same 8) (mCons (mApp f_fraction (mCons (mV 2) (mCons (mV 3) (mNil)))) (mCons (mApp f_quotient (mCons (mApp gTup (mCons (mV 2) (mCons (mC (.int 1)) (mNil)))) (mCons (mApp gTup (mCons (mV 3) (mCons (mC (.int 1)) (mNil)))) (mNil)))) (mNil)))))) (sRet (mC (.bl false))) (sPass)) (sSeq (sAsg (.nm 4) (mApp f_caught (mCons (mC (.int 6)) (mCons (mV 2) (mCons (mC (.int 0)) (mCons (mApp gLst (mNil)) (mNil))))))) (sRet (mAndV (mIsE errNames sub_InvalidNumber (mV 4)) (mApp (f_same 8) (mCons (mVal errNames (mV 4)) (mCons (mC (.int 0)) (mNil)))))))))
def f_made : List D → Store → Res D := fnOf 5 b_made
def b_sum : MS := sSeq (sAsg (.nm 1) (mApp gTup (mCons (mC (.int 0)) (mCons (mC (.int 1)) (mNil))))) (sSeq (sFor (.tp [.nm 2, .nm 3]) (mSrc (mV 0)) (sAsg (.nm 1) (mApp f_low (mCons (mOp gAdd (mOp gMul (mOp gIx (mV 1) (mC (.int 0))) (mV 3)) (mOp gMul (mV 2) (mOp gIx (mV 1) (mC (.int 1))))) (mCons (mOp gMul (mOp gIx (mV 1) (mC (.int 1))) (mV 3)) (mNil)))))) (sRet (mV 1)))
def f_sum : List D → Store → Res D := fnOf 4 b_sum
def b_right : MS := sSeq (sAsg (.nm 1) (mApp f_draw (mCons (mV 0) (mNil)))) (sSeq (sAsg (.nm 2) (mApp f_second (mCons (mV 0) (mCons (mV 1) (mNil))))) (sSeq (sAsg (.nm 3) (mBox (mLc (.nm 4) [4] (mRng1 (mApp f_drop (mCons (mV 0) (mCons (mC (.int 7)) (mNil))))) (mYes) (mApp f_draw (mCons (mV 0) (mNil)))))) (sSeq (sAsg (.nm 5) (mApp gList (mCons (mV 3) (mNil)))) (sSeq (sIf (mOr (mNot (mTru (mApp f_told (mCons (mV 1) (mNil))))) (mOr (mNot (mTru (mApp f_told (mCons (mV 2) (mNil))))) (mOr (mNot (mTru (mApp f_worked (mCons (mV 1) (mCons (mV 2) (mNil)))))) (mNot (mTru (mApp f_worked (mCons (mV 2) (mCons (mV 1) (mNil))))))))) (sRet (mC (.bl false))) (sPass)) (sSeq (sIf (mOr (mNot (mTru (mApp (f_same 8) (mCons (mApp f_sum_of (mCons (mV 5) (mNil))) (mCons (mApp f_sum (mCons (mV 3) (mNil))) (mNil)))))) (mTst (mOp gNe (mV 5) (mV 3)))) (sRet (mC (.bl false))) (sPass)) (sSeq (sExpr (mMt gApp (mV 5) (mCons (mV 1) mNil))) (sSeq (sIf (mOr (mNot (mTru (mApp (f_same 8) (mCons (mApp f_sum_of (mCons (mV 5) (mNil))) (mCons (mApp f_sum (mCons (mOp gAdd (mV 3) (mApp gLst (mCons (mV 1) (mNil)))) (mNil))) (mNil)))))) (mNot (mTru (mApp f_made (mCons (mV 0) (mCons (mV 1) (mNil))))))) (sRet (mC (.bl false))) (sPass)) (sRet (mApp f_refusals (mCons (mV 0) (mCons (mV 1) (mCons (mV 2) (mCons (mV 3) (mNil))))))))))))))
def f_right : List D → Store → Res D := fnOf 6 b_right
def b_jug : MS := sRet (mApp gLst (mCons (mApp gMax2 (mCons (mC (.int 0)) (mCons (mOp gSub (mV 0) (mOp gPow (mC (.int 10)) (mC (.int 18)))) (mNil)))) (mCons (mOp gMod (mApp gInt (mCons (mOp gAdd (mOp gMul (mV 0) (mC (.int 32452843))) (mOp gMul (mOp gAdd (mV 1) (mC (.int 11))) (mC (.int 49979687)))) (mNil))) (mOp gAdd (mOp gPow (mC (.int 10)) (mC (.int 24))) (mC (.int 7)))) (mCons (mC (.int 0)) (mNil)))))
def f_jug : List D → Store → Res D := fnOf 2 b_jug
def b_law : MS := sSeq (sAsg (.nm 1) (mOp gAdd (mSlice (mV 0) (none) (some (mC (.int 8)))) (mOp gMul (mApp gLst (mCons (mC (.int 0)) (mNil))) (mApp gInt (mCons (mOp gEq (mV 0) (mApp gLst (mNil))) (mNil)))))) (sSeq (sFor (.nm 2) (mRng1 (mApp gLen (mCons (mV 1) (mNil)))) (sIf (mNot (mTru (mApp f_right (mCons (mApp f_jug (mCons (mOp gIx (mV 1) (mV 2)) (mCons (mV 2) (mNil)))) (mNil))))) (sRet (mC (.bl false))) (sPass))) (sRet (mC (.bl true))))
def f_law : List D → Store → Res D := fnOf 3 b_law
abbrev s_drop : Stmt := topS 30
abbrev n_drop : List Str := ["_law_jug_here", "_law_many", "_law_drop_here", "_law_stirred"]
abbrev s_size : Stmt := topS 33
abbrev n_size : List Str := ["_law_jug_here", "_law_size_here"]
abbrev s_low : Stmt := topS 31
abbrev n_low : List Str := ["_law_above", "_law_below", "_law_one", "_law_two", "_law_turn"]
abbrev s_draw : Stmt := topS 34
abbrev n_draw : List Str := ["_law_jug_here", "_law_above"]
abbrev s_second : Stmt := topS 35
abbrev n_second : List Str := ["_law_jug_here", "_law_one", "_law_way"]
abbrev s_odd : Stmt := topS 36
abbrev n_odd : List Str := ["_law_jug_here", "_law_one", "_law_more", "_law_above", "_law_below", "_law_tuples", "_law_wrong", "_law_other", "_law_every"]
abbrev s_is_integer : Stmt := topS 9
abbrev n_is_integer : List Str := ["value"]
abbrev s_is_fraction : Stmt := topS 10
abbrev n_is_fraction : List Str := ["value"]
abbrev s_built_anew : Stmt := topS 2
abbrev n_built_anew : List Str := ["value", "entry"]
abbrev s_check_fraction : Stmt := topS 20
abbrev n_check_fraction : List Str := ["value"]
abbrev s_reduced : Stmt := topS 21
abbrev n_reduced : List Str := ["above", "below", "divisor"]
abbrev s_added : Stmt := topS 22
abbrev n_added : List Str := ["one", "other"]
abbrev s_plus : Stmt := topS 14
abbrev n_plus : List Str := ["one", "other"]
abbrev s_lessened : Stmt := topS 23
abbrev n_lessened : List Str := ["one", "other"]
abbrev s_less : Stmt := topS 15
abbrev n_less : List Str := ["one", "other"]
abbrev s_multiplied : Stmt := topS 24
abbrev n_multiplied : List Str := ["one", "other"]
abbrev s_times : Stmt := topS 16
abbrev n_times : List Str := ["one", "other"]
abbrev s_divided : Stmt := topS 25
abbrev n_divided : List Str := ["one", "other"]
abbrev s_over : Stmt := topS 17
abbrev n_over : List Str := ["one", "other"]
abbrev s_order : Stmt := topS 26
abbrev n_order : List Str := ["one", "other", "left", "right"]
abbrev s_compared : Stmt := topS 18
abbrev n_compared : List Str := ["one", "other"]
abbrev s_total : Stmt := topS 27
abbrev n_total : List Str := ["fractions", "result", "entry"]
abbrev s_sum_of : Stmt := topS 19
abbrev n_sum_of : List Str := ["fractions", "entry"]
abbrev s_fraction : Stmt := topS 13
abbrev n_fraction : List Str := ["above", "below"]
abbrev s_caught : Stmt := topS 39
abbrev n_caught : List Str := ["_law_way", "_law_one", "_law_other", "_law_parts", "_law_caught_here", "e"]
abbrev s_refused : Stmt := topS 40
abbrev n_refused : List Str := ["_law_way", "_law_one", "_law_other", "_law_parts", "_law_bad", "_law_caught_here"]
abbrev s_is_from_zero : Stmt := topS 11
abbrev n_is_from_zero : List Str := ["value"]
abbrev s_is_share : Stmt := topS 12
abbrev n_is_share : List Str := ["value"]
abbrev s_refusals : Stmt := topS 44
abbrev n_refusals : List Str := ["_law_jug_here", "_law_one", "_law_other", "_law_parts", "_law_bad", "_law_way"]
abbrev s_same : Stmt := topS 32
abbrev n_same : List Str := ["_law_found", "_law_due", "_law_k"]
abbrev s_told : Stmt := topS 42
abbrev n_told : List Str := ["_law_one", "_law_share"]
abbrev s_quotient : Stmt := topS 38
abbrev n_quotient : List Str := ["_law_one", "_law_other", "_law_above", "_law_below"]
abbrev s_worked : Stmt := topS 41
abbrev n_worked : List Str := ["_law_one", "_law_other", "_law_first", "_law_second_here"]
abbrev s_made : Stmt := topS 43
abbrev n_made : List Str := ["_law_jug_here", "_law_one", "_law_above", "_law_below", "_law_caught_here"]
abbrev s_sum : Stmt := topS 37
abbrev n_sum : List Str := ["_law_parts", "_law_total", "_law_above", "_law_below"]
abbrev s_right : Stmt := topS 45
abbrev n_right : List Str := ["_law_jug_here", "_law_one", "_law_other", "_law_parts", "_law_turn", "_law_handed"]
abbrev s_jug : Stmt := topS 29
abbrev n_jug : List Str := ["_law_cell", "_law_k"]
abbrev s_law : Stmt := topS 46
abbrev n_law : List Str := ["_law_script", "_law_cells", "_law_k"]
abbrev s_init : Stmt := inClass (topS 4) 0
structure Txt (K : PySem.W.Frag) (mg : Str → Option Value) where
  a_drop : Addr
  d_drop : FuncData
  m_drop : mg "_law_drop" = some (.ref a_drop)
  F_drop : Fun K "_law_drop" "_law_drop" s_drop a_drop d_drop
  k_drop : PySem.W.keepIn K (.ref a_drop) = true
  b_drop : Binds K d_drop ["_law_jug_here", "_law_many"] []
  a_size : Addr
  d_size : FuncData
  m_size : mg "_law_size" = some (.ref a_size)
  F_size : Fun K "_law_size" "_law_size" s_size a_size d_size
  k_size : PySem.W.keepIn K (.ref a_size) = true
  b_size : Binds K d_size ["_law_jug_here"] []
  a_low : Addr
  d_low : FuncData
  m_low : mg "_law_low" = some (.ref a_low)
  F_low : Fun K "_law_low" "_law_low" s_low a_low d_low
  k_low : PySem.W.keepIn K (.ref a_low) = true
  b_low : Binds K d_low ["_law_above", "_law_below"] []
  a_draw : Addr
  d_draw : FuncData
  m_draw : mg "_law_draw" = some (.ref a_draw)
  F_draw : Fun K "_law_draw" "_law_draw" s_draw a_draw d_draw
  k_draw : PySem.W.keepIn K (.ref a_draw) = true
  b_draw : Binds K d_draw ["_law_jug_here"] []
  a_second : Addr
  d_second : FuncData
  m_second : mg "_law_second" = some (.ref a_second)
  F_second : Fun K "_law_second" "_law_second" s_second a_second d_second
  k_second : PySem.W.keepIn K (.ref a_second) = true
  b_second : Binds K d_second ["_law_jug_here", "_law_one"] []
  a_odd : Addr
  d_odd : FuncData
  m_odd : mg "_law_odd" = some (.ref a_odd)
  F_odd : Fun K "_law_odd" "_law_odd" s_odd a_odd d_odd
  k_odd : PySem.W.keepIn K (.ref a_odd) = true
  b_odd : Binds K d_odd ["_law_jug_here", "_law_one"] []
  a_is_integer : Addr
  d_is_integer : FuncData
  m_is_integer : mg "is_integer" = some (.ref a_is_integer)
  F_is_integer : Fun K "is_integer" "is_integer" s_is_integer a_is_integer d_is_integer
  k_is_integer : PySem.W.keepIn K (.ref a_is_integer) = true
  b_is_integer : Binds K d_is_integer ["value"] []
  a_is_fraction : Addr
  d_is_fraction : FuncData
  m_is_fraction : mg "is_fraction" = some (.ref a_is_fraction)
  F_is_fraction : Fun K "is_fraction" "is_fraction" s_is_fraction a_is_fraction d_is_fraction
  k_is_fraction : PySem.W.keepIn K (.ref a_is_fraction) = true
  b_is_fraction : Binds K d_is_fraction ["value"] []
  a_built_anew : Addr
  d_built_anew : FuncData
  m_built_anew : mg "built_anew" = some (.ref a_built_anew)
  F_built_anew : Fun K "built_anew" "built_anew" s_built_anew a_built_anew d_built_anew
  k_built_anew : PySem.W.keepIn K (.ref a_built_anew) = true
  b_built_anew : Binds K d_built_anew ["value"] []
  a_check_fraction : Addr
  d_check_fraction : FuncData
  m_check_fraction : mg "check_fraction" = some (.ref a_check_fraction)
  F_check_fraction : Fun K "check_fraction" "check_fraction" s_check_fraction a_check_fraction d_check_fraction
  k_check_fraction : PySem.W.keepIn K (.ref a_check_fraction) = true
  b_check_fraction : Binds K d_check_fraction ["value"] []
  a_reduced : Addr
  d_reduced : FuncData
  m_reduced : mg "reduced" = some (.ref a_reduced)
  F_reduced : Fun K "reduced" "reduced" s_reduced a_reduced d_reduced
  k_reduced : PySem.W.keepIn K (.ref a_reduced) = true
  b_reduced : Binds K d_reduced ["above", "below"] []
  a_added : Addr
  d_added : FuncData
  m_added : mg "added" = some (.ref a_added)
  F_added : Fun K "added" "added" s_added a_added d_added
  k_added : PySem.W.keepIn K (.ref a_added) = true
  b_added : Binds K d_added ["one", "other"] []
  a_plus : Addr
  d_plus : FuncData
  m_plus : mg "plus" = some (.ref a_plus)
  F_plus : Fun K "plus" "plus" s_plus a_plus d_plus
  k_plus : PySem.W.keepIn K (.ref a_plus) = true
  b_plus : Binds K d_plus ["one", "other"] []
  a_lessened : Addr
  d_lessened : FuncData
  m_lessened : mg "lessened" = some (.ref a_lessened)
  F_lessened : Fun K "lessened" "lessened" s_lessened a_lessened d_lessened
  k_lessened : PySem.W.keepIn K (.ref a_lessened) = true
  b_lessened : Binds K d_lessened ["one", "other"] []
  a_less : Addr
  d_less : FuncData
  m_less : mg "less" = some (.ref a_less)
  F_less : Fun K "less" "less" s_less a_less d_less
  k_less : PySem.W.keepIn K (.ref a_less) = true
  b_less : Binds K d_less ["one", "other"] []
  a_multiplied : Addr
  d_multiplied : FuncData
  m_multiplied : mg "multiplied" = some (.ref a_multiplied)
  F_multiplied : Fun K "multiplied" "multiplied" s_multiplied a_multiplied d_multiplied
  k_multiplied : PySem.W.keepIn K (.ref a_multiplied) = true
  b_multiplied : Binds K d_multiplied ["one", "other"] []
  a_times : Addr
  d_times : FuncData
  m_times : mg "times" = some (.ref a_times)
  F_times : Fun K "times" "times" s_times a_times d_times
  k_times : PySem.W.keepIn K (.ref a_times) = true
  b_times : Binds K d_times ["one", "other"] []
  a_divided : Addr
  d_divided : FuncData
  m_divided : mg "divided" = some (.ref a_divided)
  F_divided : Fun K "divided" "divided" s_divided a_divided d_divided
  k_divided : PySem.W.keepIn K (.ref a_divided) = true
  b_divided : Binds K d_divided ["one", "other"] []
  a_over : Addr
  d_over : FuncData
  m_over : mg "over" = some (.ref a_over)
  F_over : Fun K "over" "over" s_over a_over d_over
  k_over : PySem.W.keepIn K (.ref a_over) = true
  b_over : Binds K d_over ["one", "other"] []
  a_order : Addr
  d_order : FuncData
  m_order : mg "order" = some (.ref a_order)
  F_order : Fun K "order" "order" s_order a_order d_order
  k_order : PySem.W.keepIn K (.ref a_order) = true
  b_order : Binds K d_order ["one", "other"] []
  a_compared : Addr
  d_compared : FuncData
  m_compared : mg "compared" = some (.ref a_compared)
  F_compared : Fun K "compared" "compared" s_compared a_compared d_compared
  k_compared : PySem.W.keepIn K (.ref a_compared) = true
  b_compared : Binds K d_compared ["one", "other"] []
  a_total : Addr
  d_total : FuncData
  m_total : mg "total" = some (.ref a_total)
  F_total : Fun K "total" "total" s_total a_total d_total
  k_total : PySem.W.keepIn K (.ref a_total) = true
  b_total : Binds K d_total ["fractions"] []
  a_sum_of : Addr
  d_sum_of : FuncData
  m_sum_of : mg "sum_of" = some (.ref a_sum_of)
  F_sum_of : Fun K "sum_of" "sum_of" s_sum_of a_sum_of d_sum_of
  k_sum_of : PySem.W.keepIn K (.ref a_sum_of) = true
  b_sum_of : Binds K d_sum_of ["fractions"] []
  a_fraction : Addr
  d_fraction : FuncData
  m_fraction : mg "fraction" = some (.ref a_fraction)
  F_fraction : Fun K "fraction" "fraction" s_fraction a_fraction d_fraction
  k_fraction : PySem.W.keepIn K (.ref a_fraction) = true
  b_fraction : Binds K d_fraction ["above", "below"] []
  a_caught : Addr
  d_caught : FuncData
  m_caught : mg "_law_caught" = some (.ref a_caught)
  F_caught : Fun K "_law_caught" "_law_caught" s_caught a_caught d_caught
  k_caught : PySem.W.keepIn K (.ref a_caught) = true
  b_caught : Binds K d_caught ["_law_way", "_law_one", "_law_other", "_law_parts"] []
  a_refused : Addr
  d_refused : FuncData
  m_refused : mg "_law_refused" = some (.ref a_refused)
  F_refused : Fun K "_law_refused" "_law_refused" s_refused a_refused d_refused
  k_refused : PySem.W.keepIn K (.ref a_refused) = true
  b_refused : Binds K d_refused ["_law_way", "_law_one", "_law_other", "_law_parts", "_law_bad"] []
  a_is_from_zero : Addr
  d_is_from_zero : FuncData
  m_is_from_zero : mg "is_from_zero" = some (.ref a_is_from_zero)
  F_is_from_zero : Fun K "is_from_zero" "is_from_zero" s_is_from_zero a_is_from_zero d_is_from_zero
  k_is_from_zero : PySem.W.keepIn K (.ref a_is_from_zero) = true
  b_is_from_zero : Binds K d_is_from_zero ["value"] []
  a_is_share : Addr
  d_is_share : FuncData
  m_is_share : mg "is_share" = some (.ref a_is_share)
  F_is_share : Fun K "is_share" "is_share" s_is_share a_is_share d_is_share
  k_is_share : PySem.W.keepIn K (.ref a_is_share) = true
  b_is_share : Binds K d_is_share ["value"] []
  a_refusals : Addr
  d_refusals : FuncData
  m_refusals : mg "_law_refusals" = some (.ref a_refusals)
  F_refusals : Fun K "_law_refusals" "_law_refusals" s_refusals a_refusals d_refusals
  k_refusals : PySem.W.keepIn K (.ref a_refusals) = true
  b_refusals : Binds K d_refusals ["_law_jug_here", "_law_one", "_law_other", "_law_parts"] []
  a_same : Addr
  d_same : FuncData
  m_same : mg "_law_same" = some (.ref a_same)
  F_same : Fun K "_law_same" "_law_same" s_same a_same d_same
  k_same : PySem.W.keepIn K (.ref a_same) = true
  b_same : Binds K d_same ["_law_found", "_law_due"] []
  a_told : Addr
  d_told : FuncData
  m_told : mg "_law_told" = some (.ref a_told)
  F_told : Fun K "_law_told" "_law_told" s_told a_told d_told
  k_told : PySem.W.keepIn K (.ref a_told) = true
  b_told : Binds K d_told ["_law_one"] []
  a_quotient : Addr
  d_quotient : FuncData
  m_quotient : mg "_law_quotient" = some (.ref a_quotient)
  F_quotient : Fun K "_law_quotient" "_law_quotient" s_quotient a_quotient d_quotient
  k_quotient : PySem.W.keepIn K (.ref a_quotient) = true
  b_quotient : Binds K d_quotient ["_law_one", "_law_other"] []
  a_worked : Addr
  d_worked : FuncData
  m_worked : mg "_law_worked" = some (.ref a_worked)
  F_worked : Fun K "_law_worked" "_law_worked" s_worked a_worked d_worked
  k_worked : PySem.W.keepIn K (.ref a_worked) = true
  b_worked : Binds K d_worked ["_law_one", "_law_other"] []
  a_made : Addr
  d_made : FuncData
  m_made : mg "_law_made" = some (.ref a_made)
  F_made : Fun K "_law_made" "_law_made" s_made a_made d_made
  k_made : PySem.W.keepIn K (.ref a_made) = true
  b_made : Binds K d_made ["_law_jug_here", "_law_one"] []
  a_sum : Addr
  d_sum : FuncData
  m_sum : mg "_law_sum" = some (.ref a_sum)
  F_sum : Fun K "_law_sum" "_law_sum" s_sum a_sum d_sum
  k_sum : PySem.W.keepIn K (.ref a_sum) = true
  b_sum : Binds K d_sum ["_law_parts"] []
  a_right : Addr
  d_right : FuncData
  m_right : mg "_law_right" = some (.ref a_right)
  F_right : Fun K "_law_right" "_law_right" s_right a_right d_right
  k_right : PySem.W.keepIn K (.ref a_right) = true
  b_right : Binds K d_right ["_law_jug_here"] []
  a_jug : Addr
  d_jug : FuncData
  m_jug : mg "_law_jug" = some (.ref a_jug)
  F_jug : Fun K "_law_jug" "_law_jug" s_jug a_jug d_jug
  k_jug : PySem.W.keepIn K (.ref a_jug) = true
  b_jug : Binds K d_jug ["_law_cell", "_law_k"] []
  a_law : Addr
  d_law : FuncData
  m_law : mg "law" = some (.ref a_law)
  F_law : Fun K "law" "law" s_law a_law d_law
  k_law : PySem.W.keepIn K (.ref a_law) = true
  b_law : Binds K d_law ["_law_script"] []
  a_CaskError : Addr
  c_CaskError : mg "CaskError" = some (.ref a_CaskError)
  a_InvalidFraction : Addr
  c_InvalidFraction : mg "InvalidFraction" = some (.ref a_InvalidFraction)
  a_InvalidNumber : Addr
  c_InvalidNumber : mg "InvalidNumber" = some (.ref a_InvalidNumber)
  a_init : Addr
  d_init : FuncData
  F_init : Fun K "__init__" "CaskError.__init__" s_init a_init d_init
  t_init : PySem.W.typeIn K (.ref a_init) = some (.type "function")
  b_init : Binds K d_init ["self", "value"] []
  n_ValueError : mg "ValueError" = none
  v_ValueError : PySem.W.findCls K (.type "ValueError") (.type "type") "__init__" = some (.val (.builtin "ValueError.__init__"))
  e_InvalidNumber : ErrC K mg "InvalidNumber" a_InvalidNumber a_init
  e_InvalidFraction : ErrC K mg "InvalidFraction" a_InvalidFraction a_init
  i_InvalidFraction : ∀ c C, c ∈ errNames → mg c = some (.ref C) → PySem.W.kitOne K (.ref C) (.ref a_InvalidFraction) = some (sub_InvalidFraction c)
  i_InvalidNumber : ∀ c C, c ∈ errNames → mg c = some (.ref C) → PySem.W.kitOne K (.ref C) (.ref a_InvalidNumber) = some (sub_InvalidNumber c)
  x_CaskError : ∀ e C b, mg e = some (.ref C) → cat_CaskError e = some b → PySem.W.exmOne K (.ref C) (.ref a_CaskError) = some b
  a_ZERO : Addr
  c_ZERO : mg "ZERO" = some (.ref a_ZERO)
  z_ZERO : ∀ H : Hp, SqT K H a_ZERO [V.int 0, V.int 1]
  n_gcd : mg "gcd" = some (.builtin "math.gcd")
  n_abs : mg "abs" = none
  n_all : mg "all" = none
  n_bool : mg "bool" = none
  n_int : mg "int" = none
  n_isinstance : mg "isinstance" = none
  n_len : mg "len" = none
  n_list : mg "list" = none
  n_max : mg "max" = none
  n_range : mg "range" = none
  n_repr : mg "repr" = none
  n_tuple : mg "tuple" = none
variable {P : Program} {w : World} {K : PySem.W.Frag} {mg : Str → Option Value} {base : Heap}
theorem Txt.errs (T : Txt K mg) : Errs K mg errNames := ⟨fun c C hc hm => by
  simp only [errNames, List.mem_cons, List.not_mem_nil, or_false] at hc
  rcases hc with rfl | rfl
  · have e := T.e_InvalidNumber.gC.symm.trans hm
    cases e
    exact ⟨_, T.e_InvalidNumber⟩
  · have e := T.e_InvalidFraction.gC.symm.trans hm
    cases e
    exact ⟨_, T.e_InvalidFraction⟩⟩
theorem sc_init : FnScope ["self", "value"] ["self", "value"] (defScope s_init) := ⟨rfl, rfl, rfl, by decide +kernel, rfl, by decide +kernel, by decide +kernel⟩
theorem ok_initE (T : Txt K mg) : FnOk P w K mg base (L2.CX P w) 1 T.a_init T.d_init ["self", "value"] (spInit K) := ok_init T.F_init sc_init fun cdv A outer s H E =>
    pss_cons (ps_expr (pe_veinit rfl T.n_ValueError T.v_ValueError (by exact (pa_cons (pv 0) (pa_cons (pv 1) pa_nil))))) (pss_one (ps_ost (pv 0) (pv 1)))
theorem sc_drop : FnScope n_drop ["_law_jug_here", "_law_many"] (defScope s_drop) := ⟨rfl, rfl, rfl, by decide +kernel, rfl, by decide +kernel, by decide +kernel⟩
theorem ok_drop (T : Txt K mg) : FnG P w K mg base 3 T.a_drop T.d_drop ["_law_jug_here", "_law_many"] (spF K mg 2 f_drop) := fn_ok T.F_drop sc_drop fun cdv A outer s H E hr hG tk =>
    js_cons (js_if (j_tcmp o_gt calm_int2 (j_ix (j_v 0) (j_int)) (j_int) (nomark _)) (js_cons (js_set 2 sc_drop.nd rfl (Or.inl rfl) (j_op o_mod calm_int2 (j_callTy c_int calm_int T.n_int bt_int (j_cons (j_ix (j_v 0) (j_int)) (j_nil))) (j_v 1)))
        (js_cons (js_setI (j_v 0) (j_int) (j_op o_div calm_int2 (j_ix (j_v 0) (j_int)) (j_v 1)))
        (js_one (js_ret (j_v 2))))) (js_nil))
        (js_cons (js_setI (j_v 0) (j_int) (j_op o_add calm_add (j_ix (j_v 0) (j_int)) (j_int)))
        (js_cons (js_set 3 sc_drop.nd rfl (Or.inl rfl) (j_op o_mod calm_int2 (j_callTy c_int calm_int T.n_int bt_int (j_cons (j_op o_pow calm_int2 (j_op o_add calm_add (j_ix (j_v 0) (j_int)) (j_op o_mul calm_mul (j_ix (j_v 0) (j_int)) (j_int))) (j_int)) (j_nil))) (j_op o_add calm_add (j_op o_pow calm_int2 (j_int) (j_int)) (j_int))))
        (js_one (js_ret (j_op o_mod calm_int2 (j_op o_div calm_int2 (j_op o_mod calm_int2 (j_callTy c_int calm_int T.n_int bt_int (j_cons (j_op o_add calm_add (j_op o_pow calm_int2 (j_v 3) (j_int)) (j_op o_div calm_int2 (j_v 3) (j_int))) (j_nil))) (j_op o_add calm_add (j_op o_pow calm_int2 (j_int) (j_int)) (j_int))) (j_int)) (j_v 1))))))
theorem sc_size : FnScope n_size ["_law_jug_here"] (defScope s_size) := ⟨rfl, rfl, rfl, by decide +kernel, rfl, by decide +kernel, by decide +kernel⟩
theorem ok_size (T : Txt K mg) (H_drop : FnG P w K mg base 3 T.a_drop T.d_drop ["_law_jug_here", "_law_many"] (spF K mg 2 f_drop)) : FnG P w K mg base 4 T.a_size T.d_size ["_law_jug_here"] (spF K mg 1 f_size) := fn_ok T.F_size sc_size fun cdv A outer s H E hr hG tk =>
    js_cons (js_set 1 sc_size.nd rfl (Or.inl rfl) (j_call tk H_drop (hr.mono (by decide)) hG T.m_drop T.k_drop T.b_drop (j_cons (j_v 0) (j_cons (j_int) (j_nil))) (len_cons (len_cons (len_nil)))))
        (js_cons (js_if (j_tcmp (o_eq hr.units) calm_eq (j_v 1) (j_int) (nomark _)) (js_one (js_ret (j_op o_add calm_add (j_op o_add calm_add (j_op o_mul calm_mul (j_call tk H_drop (hr.mono (by decide)) hG T.m_drop T.k_drop T.b_drop (j_cons (j_v 0) (j_cons (j_op o_pow calm_int2 (j_int) (j_int)) (j_nil))) (len_cons (len_cons (len_nil)))) (j_op o_pow calm_int2 (j_int) (j_int))) (j_op o_mul calm_mul (j_call tk H_drop (hr.mono (by decide)) hG T.m_drop T.k_drop T.b_drop (j_cons (j_v 0) (j_cons (j_op o_pow calm_int2 (j_int) (j_int)) (j_nil))) (len_cons (len_cons (len_nil)))) (j_op o_pow calm_int2 (j_int) (j_int)))) (j_call tk H_drop (hr.mono (by decide)) hG T.m_drop T.k_drop T.b_drop (j_cons (j_v 0) (j_cons (j_op o_pow calm_int2 (j_int) (j_int)) (j_nil))) (len_cons (len_cons (len_nil))))))) (js_nil))
        (js_one (js_ret (j_call tk H_drop (hr.mono (by decide)) hG T.m_drop T.k_drop T.b_drop (j_cons (j_v 0) (j_cons (j_ix (j_lst (j_cons (j_int) (j_cons (j_int) (j_cons (j_int) (j_cons (j_int) (j_cons (j_op o_pow calm_int2 (j_int) (j_int)) (j_nil))))))) (j_v 1)) (j_nil))) (len_cons (len_cons (len_nil)))))))
theorem sc_low : FnScope n_low ["_law_above", "_law_below"] (defScope s_low) := ⟨rfl, rfl, rfl, by decide +kernel, rfl, by decide +kernel, by decide +kernel⟩
theorem ok_low (T : Txt K mg) : FnG P w K mg base 3 T.a_low T.d_low ["_law_above", "_law_below"] (spF K mg 2 f_low) := fn_ok T.F_low sc_low fun cdv A outer s H E hr hG tk =>
    js_cons (js_set 2 sc_low.nd rfl (Or.inl rfl) (j_callB c_abs calm_abs T.n_abs bt_abs (j_cons (j_v 0) (j_nil))))
        (js_cons (js_set 3 sc_low.nd rfl (Or.inl rfl) (j_v 1))
        (js_cons (js_for (passes_of rfl) rfl (j_range1 T.n_range (j_int)) (jg_name 4 sc_low.nd rfl (Or.inl rfl)) (js_cons (js_if (j_tcmp (o_eq hr.units) calm_eq (j_v 3) (j_int) (nomark _)) (js_one (js_brk)) (js_nil))
        (js_one (js_par 2 3 rfl sc_low.nd rfl rfl (by decide) rfl rfl (j_v 3) (j_op o_mod calm_int2 (j_callTy c_int calm_int T.n_int bt_int (j_cons (j_v 2) (j_nil))) (j_v 3)) rfl))))
        (js_one (js_ret (j_tup (j_cons (j_op o_div calm_int2 (j_v 0) (j_v 2)) (j_cons (j_op o_div calm_int2 (j_v 1) (j_v 2)) (j_nil))))))))
theorem sc_draw : FnScope n_draw ["_law_jug_here"] (defScope s_draw) := ⟨rfl, rfl, rfl, by decide +kernel, rfl, by decide +kernel, by decide +kernel⟩
theorem ok_draw (T : Txt K mg) (H_size : FnG P w K mg base 4 T.a_size T.d_size ["_law_jug_here"] (spF K mg 1 f_size)) (H_drop : FnG P w K mg base 3 T.a_drop T.d_drop ["_law_jug_here", "_law_many"] (spF K mg 2 f_drop)) (H_low : FnG P w K mg base 3 T.a_low T.d_low ["_law_above", "_law_below"] (spF K mg 2 f_low)) : FnG P w K mg base 5 T.a_draw T.d_draw ["_law_jug_here"] (spF K mg 1 f_draw) := fn_ok T.F_draw sc_draw fun cdv A outer s H E hr hG tk =>
    js_cons (js_set 1 sc_draw.nd rfl (Or.inl rfl) (j_call tk H_size (hr.mono (by decide)) hG T.m_size T.k_size T.b_size (j_cons (j_v 0) (j_nil)) (len_cons (len_nil))))
        (js_cons (js_if (j_tcmp (o_eq hr.units) calm_eq (j_call tk H_drop (hr.mono (by decide)) hG T.m_drop T.k_drop T.b_drop (j_cons (j_v 0) (j_cons (j_int) (j_nil))) (len_cons (len_cons (len_nil)))) (j_int) (nomark _)) (js_one (js_set 1 sc_draw.nd rfl (Or.inl rfl) (j_op o_sub calm_int2 (j_int) (j_v 1)))) (js_nil))
        (js_one (js_ret (j_call tk H_low (hr.mono (by decide)) hG T.m_low T.k_low T.b_low (j_cons (j_v 1) (j_cons (j_op o_add calm_add (j_int) (j_call tk H_size (hr.mono (by decide)) hG T.m_size T.k_size T.b_size (j_cons (j_v 0) (j_nil)) (len_cons (len_nil)))) (j_nil))) (len_cons (len_cons (len_nil)))))))
theorem sc_second : FnScope n_second ["_law_jug_here", "_law_one"] (defScope s_second) := ⟨rfl, rfl, rfl, by decide +kernel, rfl, by decide +kernel, by decide +kernel⟩
theorem ok_second (T : Txt K mg) (H_drop : FnG P w K mg base 3 T.a_drop T.d_drop ["_law_jug_here", "_law_many"] (spF K mg 2 f_drop)) (H_low : FnG P w K mg base 3 T.a_low T.d_low ["_law_above", "_law_below"] (spF K mg 2 f_low)) (H_draw : FnG P w K mg base 5 T.a_draw T.d_draw ["_law_jug_here"] (spF K mg 1 f_draw)) : FnG P w K mg base 6 T.a_second T.d_second ["_law_jug_here", "_law_one"] (spF K mg 2 f_second) := fn_ok T.F_second sc_second fun cdv A outer s H E hr hG tk =>
    js_cons (js_set 2 sc_second.nd rfl (Or.inl rfl) (j_call tk H_drop (hr.mono (by decide)) hG T.m_drop T.k_drop T.b_drop (j_cons (j_v 0) (j_cons (j_int) (j_nil))) (len_cons (len_cons (len_nil)))))
        (js_cons (js_if (j_tcmp (o_eq hr.units) calm_eq (j_v 2) (j_int) (nomark _)) (js_one (js_ret (j_v 1))) (js_nil))
        (js_cons (js_if (j_tcmp (o_eq hr.units) calm_eq (j_v 2) (j_int) (nomark _)) (js_one (js_ret (j_tup (j_cons (j_op o_sub calm_int2 (j_int) (j_ix (j_v 1) (j_int))) (j_cons (j_ix (j_v 1) (j_int)) (j_nil)))))) (js_nil))
        (js_cons (js_if (j_pw (j_and (j_tcmp (o_eq hr.units) calm_eq (j_v 2) (j_int) (nomark _)) (j_and1 (j_tcmp o_gt calm_int2 (j_ix (j_v 1) (j_int)) (j_int) (nomark _))))) (js_one (js_ret (j_tup (j_cons (j_ix (j_v 1) (j_int)) (j_cons (j_ix (j_v 1) (j_int)) (j_nil)))))) (js_nil))
        (js_cons (js_if (j_tcmp (o_eq hr.units) calm_eq (j_v 2) (j_int) (nomark _)) (js_one (js_ret (j_call tk H_low (hr.mono (by decide)) hG T.m_low T.k_low T.b_low (j_cons (j_op o_add calm_add (j_ix (j_v 1) (j_int)) (j_op o_mul calm_mul (j_call tk H_drop (hr.mono (by decide)) hG T.m_drop T.k_drop T.b_drop (j_cons (j_v 0) (j_cons (j_int) (j_nil))) (len_cons (len_cons (len_nil)))) (j_ix (j_v 1) (j_int)))) (j_cons (j_ix (j_v 1) (j_int)) (j_nil))) (len_cons (len_cons (len_nil)))))) (js_nil))
        (js_one (js_ret (j_call tk H_draw (hr.mono (by decide)) hG T.m_draw T.k_draw T.b_draw (j_cons (j_v 0) (j_nil)) (len_cons (len_nil)))))))))
theorem sc_odd : FnScope n_odd ["_law_jug_here", "_law_one"] (defScope s_odd) := ⟨rfl, rfl, rfl, by decide +kernel, rfl, by decide +kernel, by decide +kernel⟩
theorem ok_odd (T : Txt K mg) (H_drop : FnG P w K mg base 3 T.a_drop T.d_drop ["_law_jug_here", "_law_many"] (spF K mg 2 f_drop)) : FnG P w K mg base 4 T.a_odd T.d_odd ["_law_jug_here", "_law_one"] (spF K mg 2 f_odd) := fn_ok T.F_odd sc_odd fun cdv A outer s H E hr hG tk =>
    js_cons (js_set 2 sc_odd.nd rfl (Or.inl rfl) (j_op o_add calm_add (j_int) (j_call tk H_drop (hr.mono (by decide)) hG T.m_drop T.k_drop T.b_drop (j_cons (j_v 0) (j_cons (j_int) (j_nil))) (len_cons (len_cons (len_nil))))))
        (js_cons (js_asg (jg_tup rfl (jgs_cons (jg_name 3 sc_odd.nd rfl (Or.inl rfl)) (jgs_cons (jg_name 4 sc_odd.nd rfl (Or.inl rfl)) (jgs_nil)))) (j_v 1))
        (js_cons (js_set 5 sc_odd.nd rfl (Or.inl rfl) (j_lst (j_cons (j_tup (j_cons (j_op o_mul calm_mul (j_v 3) (j_v 2)) (j_cons (j_op o_mul calm_mul (j_v 4) (j_v 2)) (j_nil)))) (j_cons (j_tup (j_cons (j_v 3) (j_cons (j_int) (j_nil)))) (j_cons (j_tup (j_cons (j_v 3) (j_cons (j_op o_sub calm_int2 (j_int) (j_v 4)) (j_nil)))) (j_cons (j_tup (j_cons (j_v 3) (j_nil))) (j_cons (j_tup (j_cons (j_v 3) (j_cons (j_v 4) (j_cons (j_int) (j_nil))))) (j_cons (j_tup (j_nil)) (j_nil)))))))))
        (js_cons (js_set 6 sc_odd.nd rfl (Or.inl rfl) (j_lst (j_cons (j_tup (j_cons (j_bl) (j_cons (j_v 4) (j_nil)))) (j_cons (j_tup (j_cons (j_v 3) (j_cons (j_bl) (j_nil)))) (j_cons (j_tup (j_cons (j_non) (j_cons (j_int) (j_nil)))) (j_cons (j_tup (j_cons (j_v 3) (j_cons (j_str) (j_nil)))) (j_cons (j_tup (j_cons (j_tup (j_cons (j_v 3) (j_cons (j_v 4) (j_nil)))) (j_cons (j_int) (j_nil)))) (j_cons (j_tup (j_cons (j_lst (j_cons (j_v 3) (j_nil))) (j_cons (j_v 4) (j_nil)))) (j_nil)))))))))
        (js_cons (js_set 7 sc_odd.nd rfl (Or.inl rfl) (j_lst (j_cons (j_lst (j_cons (j_v 3) (j_cons (j_v 4) (j_nil)))) (j_cons (j_v 3) (j_cons (j_bl) (j_cons (j_non) (j_cons (j_str) (j_cons (j_dict (.cons (j_v 3) (.nil))) (j_cons (j_lst (j_nil)) (j_cons (j_dict0) (j_cons (j_str) (j_nil))))))))))))
        (js_cons (js_set 8 sc_odd.nd rfl (Or.inl rfl) (j_op o_add calm_add (j_op o_add calm_add (j_v 5) (j_v 6)) (j_v 7)))
        (js_one (js_ret (j_ix (j_v 8) (j_call tk H_drop (hr.mono (by decide)) hG T.m_drop T.k_drop T.b_drop (j_cons (j_v 0) (j_cons (j_callB c_len calm_len T.n_len bt_len (j_cons (j_v 8) (j_nil))) (j_nil))) (len_cons (len_cons (len_nil))))))))))))
theorem sc_is_integer : FnScope n_is_integer ["value"] (defScope s_is_integer) := ⟨rfl, rfl, rfl, by decide +kernel, rfl, by decide +kernel, by decide +kernel⟩
theorem ok_is_integer (T : Txt K mg) : FnG P w K mg base 3 T.a_is_integer T.d_is_integer ["value"] (spF K mg 1 f_is_integer) := fn_ok T.F_is_integer sc_is_integer fun cdv A outer s H E hr hG tk =>
    js_one (js_ret (j_andV (j_isTy T.n_isinstance T.n_int bt_int (by decide +kernel) (j_v 0)) (j_one (j_notV (j_isTy T.n_isinstance T.n_bool bt_bool (by decide +kernel) (j_v 0))))))
theorem sc_is_fraction : FnScope n_is_fraction ["value"] (defScope s_is_fraction) := ⟨rfl, rfl, rfl, by decide +kernel, rfl, by decide +kernel, by decide +kernel⟩
theorem ok_is_fraction (T : Txt K mg) (H_is_integer : FnG P w K mg base 3 T.a_is_integer T.d_is_integer ["value"] (spF K mg 1 f_is_integer)) : FnG P w K mg base 4 T.a_is_fraction T.d_is_fraction ["value"] (spF K mg 1 f_is_fraction) := fn_ok T.F_is_fraction sc_is_fraction fun cdv A outer s H E hr hG tk =>
    js_cons (js_if (j_pw (j_or (j_not (j_t (j_isTy T.n_isinstance T.n_tuple bt_tuple (by decide +kernel) (j_v 0)))) (j_or1 (j_tcmp (o_ne hr.units) calm_eq (j_callB c_len calm_len T.n_len bt_len (j_cons (j_v 0) (j_nil))) (j_int) (nomark _))))) (js_one (js_ret (j_bl))) (js_nil))
        (js_cons (js_if (j_pw (j_or (j_not (j_t (j_call tk H_is_integer (hr.mono (by decide)) hG T.m_is_integer T.k_is_integer T.b_is_integer (j_cons (j_ix (j_v 0) (j_int)) (j_nil)) (len_cons (len_nil))))) (j_or1 (j_not (j_t (j_call tk H_is_integer (hr.mono (by decide)) hG T.m_is_integer T.k_is_integer T.b_is_integer (j_cons (j_ix (j_v 0) (j_int)) (j_nil)) (len_cons (len_nil)))))))) (js_one (js_ret (j_bl))) (js_nil))
        (js_one (js_ret (j_andV (j_cmp o_ge calm_int2 (j_ix (j_v 0) (j_int)) (j_int) (nomark _)) (j_one (j_cmp (o_eq hr.units) calm_eq (j_callF c_gcd calm_gcd T.n_gcd (j_cons (j_ix (j_v 0) (j_int)) (j_cons (j_ix (j_v 0) (j_int)) (j_nil)))) (j_int) (nomark _)))))))
theorem sc_built_anew : FnScope n_built_anew ["value"] (defScope s_built_anew) := ⟨rfl, rfl, rfl, by decide +kernel, rfl, by decide +kernel, by decide +kernel⟩
theorem ok_built_anew (T : Txt K mg) : ∀ n : Nat, n ≤ 8 → FnG P w K mg base (2 + n) T.a_built_anew T.d_built_anew ["value"] (spF K mg 1 (f_built_anew n))
  | 0, _ => ⟨fun vs H Q E h => h.1, fun A outer s H args us vs Q E _ _ _ _ _ want => by
      obtain ⟨_, ι, S, ds, _, _, f⟩ := want
      exact f.elim⟩
  | n + 1, hn => by
    have ih := ok_built_anew T n (by omega)
    exact fn_ok T.F_built_anew sc_built_anew fun cdv A outer s H E hr hG tk => 
    js_cons (js_if (j_t (j_isTy T.n_isinstance T.n_list bt_list (by decide +kernel) (j_v 0))) (js_one (js_ret (j_box (j_lc [("entry", 1)] rfl sc_built_anew.nd (j_src (j_v 0)) (blk_ok rfl rfl) (fun _ _ _ _ _ => jg_name 1 sc_built_anew.nd rfl (Or.inl rfl)) (fun _ _ _ _ _ => jc_nil) (fun _ _ _ _ _ => j_call takes0 ih hr hG T.m_built_anew T.k_built_anew T.b_built_anew (j_cons (j_v 1) (j_nil)) (len_cons (len_nil))) (by decide))))) (js_nil))
        (js_cons (js_if (j_t (j_isTy T.n_isinstance T.n_tuple bt_tuple (by decide +kernel) (j_v 0))) (js_one (js_ret (j_callTyL c_tupL calm_tupL T.n_tuple bt_tuple (j_lc [("entry", 1)] rfl sc_built_anew.nd (j_src (j_v 0)) (blk_ok rfl rfl) (fun _ _ _ _ _ => jg_name 1 sc_built_anew.nd rfl (Or.inl rfl)) (fun _ _ _ _ _ => jc_nil) (fun _ _ _ _ _ => j_call takes0 ih hr hG T.m_built_anew T.k_built_anew T.b_built_anew (j_cons (j_v 1) (j_nil)) (len_cons (len_nil))) (by decide))))) (js_nil))
        (js_one (js_ret (j_v 0))))
theorem sc_check_fraction : FnScope n_check_fraction ["value"] (defScope s_check_fraction) := ⟨rfl, rfl, rfl, by decide +kernel, rfl, by decide +kernel, by decide +kernel⟩
theorem ok_check_fraction (T : Txt K mg) (H_init : FnOk P w K mg base (L2.CX P w) 1 T.a_init T.d_init ["self", "value"] (spInit K)) (H_is_fraction : FnG P w K mg base 4 T.a_is_fraction T.d_is_fraction ["value"] (spF K mg 1 f_is_fraction)) (H_built_anew : FnG P w K mg base 10 T.a_built_anew T.d_built_anew ["value"] (spF K mg 1 (f_built_anew 8))) : FnG P w K mg base 11 T.a_check_fraction T.d_check_fraction ["value"] (spF K mg 1 f_check_fraction) := fn_ok T.F_check_fraction sc_check_fraction fun cdv A outer s H E hr hG tk =>
    js_one (js_if (j_not (j_t (j_call tk H_is_fraction (hr.mono (by decide)) hG T.m_is_fraction T.k_is_fraction T.b_is_fraction (j_cons (j_v 0) (j_nil)) (len_cons (len_nil))))) (js_one (js_raise rfl tk T.e_InvalidFraction T.t_init H_init T.b_init (hr.mono (by decide)) (j_call tk H_built_anew (hr.mono (by decide)) hG T.m_built_anew T.k_built_anew T.b_built_anew (j_cons (j_v 0) (j_nil)) (len_cons (len_nil))))) (js_nil))
theorem sc_reduced : FnScope n_reduced ["above", "below"] (defScope s_reduced) := ⟨rfl, rfl, rfl, by decide +kernel, rfl, by decide +kernel, by decide +kernel⟩
theorem ok_reduced (T : Txt K mg) : FnG P w K mg base 3 T.a_reduced T.d_reduced ["above", "below"] (spF K mg 2 f_reduced) := fn_ok T.F_reduced sc_reduced fun cdv A outer s H E hr hG tk =>
    js_cons (js_set 2 sc_reduced.nd rfl (Or.inl rfl) (j_callF c_gcd calm_gcd T.n_gcd (j_cons (j_v 0) (j_cons (j_v 1) (j_nil)))))
        (js_cons (js_if (j_tcmp o_lt calm_int2 (j_v 1) (j_int) (nomark _)) (js_one (js_set 2 sc_reduced.nd rfl (Or.inl rfl) (j_un o_neg calm_neg (j_v 2)))) (js_nil))
        (js_one (js_ret (j_tup (j_cons (j_op o_div calm_int2 (j_v 0) (j_v 2)) (j_cons (j_op o_div calm_int2 (j_v 1) (j_v 2)) (j_nil)))))))
theorem sc_added : FnScope n_added ["one", "other"] (defScope s_added) := ⟨rfl, rfl, rfl, by decide +kernel, rfl, by decide +kernel, by decide +kernel⟩
theorem ok_added (T : Txt K mg) (H_reduced : FnG P w K mg base 3 T.a_reduced T.d_reduced ["above", "below"] (spF K mg 2 f_reduced)) : FnG P w K mg base 4 T.a_added T.d_added ["one", "other"] (spF K mg 2 f_added) := fn_ok T.F_added sc_added fun cdv A outer s H E hr hG tk =>
    js_one (js_ret (j_call tk H_reduced (hr.mono (by decide)) hG T.m_reduced T.k_reduced T.b_reduced (j_cons (j_op o_add calm_add (j_op o_mul calm_mul (j_ix (j_v 0) (j_int)) (j_ix (j_v 1) (j_int))) (j_op o_mul calm_mul (j_ix (j_v 1) (j_int)) (j_ix (j_v 0) (j_int)))) (j_cons (j_op o_mul calm_mul (j_ix (j_v 0) (j_int)) (j_ix (j_v 1) (j_int))) (j_nil))) (len_cons (len_cons (len_nil)))))
theorem sc_plus : FnScope n_plus ["one", "other"] (defScope s_plus) := ⟨rfl, rfl, rfl, by decide +kernel, rfl, by decide +kernel, by decide +kernel⟩
theorem ok_plus (T : Txt K mg) (H_check_fraction : FnG P w K mg base 11 T.a_check_fraction T.d_check_fraction ["value"] (spF K mg 1 f_check_fraction)) (H_added : FnG P w K mg base 4 T.a_added T.d_added ["one", "other"] (spF K mg 2 f_added)) : FnG P w K mg base 12 T.a_plus T.d_plus ["one", "other"] (spF K mg 2 f_plus) := fn_ok T.F_plus sc_plus fun cdv A outer s H E hr hG tk =>
    js_cons (js_expr (j_call tk H_check_fraction (hr.mono (by decide)) hG T.m_check_fraction T.k_check_fraction T.b_check_fraction (j_cons (j_v 0) (j_nil)) (len_cons (len_nil))))
        (js_cons (js_expr (j_call tk H_check_fraction (hr.mono (by decide)) hG T.m_check_fraction T.k_check_fraction T.b_check_fraction (j_cons (j_v 1) (j_nil)) (len_cons (len_nil))))
        (js_one (js_ret (j_call tk H_added (hr.mono (by decide)) hG T.m_added T.k_added T.b_added (j_cons (j_v 0) (j_cons (j_v 1) (j_nil))) (len_cons (len_cons (len_nil)))))))
theorem sc_lessened : FnScope n_lessened ["one", "other"] (defScope s_lessened) := ⟨rfl, rfl, rfl, by decide +kernel, rfl, by decide +kernel, by decide +kernel⟩
theorem ok_lessened (T : Txt K mg) (H_reduced : FnG P w K mg base 3 T.a_reduced T.d_reduced ["above", "below"] (spF K mg 2 f_reduced)) : FnG P w K mg base 4 T.a_lessened T.d_lessened ["one", "other"] (spF K mg 2 f_lessened) := fn_ok T.F_lessened sc_lessened fun cdv A outer s H E hr hG tk =>
    js_one (js_ret (j_call tk H_reduced (hr.mono (by decide)) hG T.m_reduced T.k_reduced T.b_reduced (j_cons (j_op o_sub calm_int2 (j_op o_mul calm_mul (j_ix (j_v 0) (j_int)) (j_ix (j_v 1) (j_int))) (j_op o_mul calm_mul (j_ix (j_v 1) (j_int)) (j_ix (j_v 0) (j_int)))) (j_cons (j_op o_mul calm_mul (j_ix (j_v 0) (j_int)) (j_ix (j_v 1) (j_int))) (j_nil))) (len_cons (len_cons (len_nil)))))
theorem sc_less : FnScope n_less ["one", "other"] (defScope s_less) := ⟨rfl, rfl, rfl, by decide +kernel, rfl, by decide +kernel, by decide +kernel⟩
theorem ok_less (T : Txt K mg) (H_check_fraction : FnG P w K mg base 11 T.a_check_fraction T.d_check_fraction ["value"] (spF K mg 1 f_check_fraction)) (H_lessened : FnG P w K mg base 4 T.a_lessened T.d_lessened ["one", "other"] (spF K mg 2 f_lessened)) : FnG P w K mg base 12 T.a_less T.d_less ["one", "other"] (spF K mg 2 f_less) := fn_ok T.F_less sc_less fun cdv A outer s H E hr hG tk =>
    js_cons (js_expr (j_call tk H_check_fraction (hr.mono (by decide)) hG T.m_check_fraction T.k_check_fraction T.b_check_fraction (j_cons (j_v 0) (j_nil)) (len_cons (len_nil))))
        (js_cons (js_expr (j_call tk H_check_fraction (hr.mono (by decide)) hG T.m_check_fraction T.k_check_fraction T.b_check_fraction (j_cons (j_v 1) (j_nil)) (len_cons (len_nil))))
        (js_one (js_ret (j_call tk H_lessened (hr.mono (by decide)) hG T.m_lessened T.k_lessened T.b_lessened (j_cons (j_v 0) (j_cons (j_v 1) (j_nil))) (len_cons (len_cons (len_nil)))))))
theorem sc_multiplied : FnScope n_multiplied ["one", "other"] (defScope s_multiplied) := ⟨rfl, rfl, rfl, by decide +kernel, rfl, by decide +kernel, by decide +kernel⟩
theorem ok_multiplied (T : Txt K mg) (H_reduced : FnG P w K mg base 3 T.a_reduced T.d_reduced ["above", "below"] (spF K mg 2 f_reduced)) : FnG P w K mg base 4 T.a_multiplied T.d_multiplied ["one", "other"] (spF K mg 2 f_multiplied) := fn_ok T.F_multiplied sc_multiplied fun cdv A outer s H E hr hG tk =>
    js_one (js_ret (j_call tk H_reduced (hr.mono (by decide)) hG T.m_reduced T.k_reduced T.b_reduced (j_cons (j_op o_mul calm_mul (j_ix (j_v 0) (j_int)) (j_ix (j_v 1) (j_int))) (j_cons (j_op o_mul calm_mul (j_ix (j_v 0) (j_int)) (j_ix (j_v 1) (j_int))) (j_nil))) (len_cons (len_cons (len_nil)))))
theorem sc_times : FnScope n_times ["one", "other"] (defScope s_times) := ⟨rfl, rfl, rfl, by decide +kernel, rfl, by decide +kernel, by decide +kernel⟩
theorem ok_times (T : Txt K mg) (H_check_fraction : FnG P w K mg base 11 T.a_check_fraction T.d_check_fraction ["value"] (spF K mg 1 f_check_fraction)) (H_multiplied : FnG P w K mg base 4 T.a_multiplied T.d_multiplied ["one", "other"] (spF K mg 2 f_multiplied)) : FnG P w K mg base 12 T.a_times T.d_times ["one", "other"] (spF K mg 2 f_times) := fn_ok T.F_times sc_times fun cdv A outer s H E hr hG tk =>
    js_cons (js_expr (j_call tk H_check_fraction (hr.mono (by decide)) hG T.m_check_fraction T.k_check_fraction T.b_check_fraction (j_cons (j_v 0) (j_nil)) (len_cons (len_nil))))
        (js_cons (js_expr (j_call tk H_check_fraction (hr.mono (by decide)) hG T.m_check_fraction T.k_check_fraction T.b_check_fraction (j_cons (j_v 1) (j_nil)) (len_cons (len_nil))))
        (js_one (js_ret (j_call tk H_multiplied (hr.mono (by decide)) hG T.m_multiplied T.k_multiplied T.b_multiplied (j_cons (j_v 0) (j_cons (j_v 1) (j_nil))) (len_cons (len_cons (len_nil)))))))
theorem sc_divided : FnScope n_divided ["one", "other"] (defScope s_divided) := ⟨rfl, rfl, rfl, by decide +kernel, rfl, by decide +kernel, by decide +kernel⟩
theorem ok_divided (T : Txt K mg) (H_reduced : FnG P w K mg base 3 T.a_reduced T.d_reduced ["above", "below"] (spF K mg 2 f_reduced)) : FnG P w K mg base 4 T.a_divided T.d_divided ["one", "other"] (spF K mg 2 f_divided) := fn_ok T.F_divided sc_divided fun cdv A outer s H E hr hG tk =>
    js_one (js_ret (j_call tk H_reduced (hr.mono (by decide)) hG T.m_reduced T.k_reduced T.b_reduced (j_cons (j_op o_mul calm_mul (j_ix (j_v 0) (j_int)) (j_ix (j_v 1) (j_int))) (j_cons (j_op o_mul calm_mul (j_ix (j_v 0) (j_int)) (j_ix (j_v 1) (j_int))) (j_nil))) (len_cons (len_cons (len_nil)))))
theorem sc_over : FnScope n_over ["one", "other"] (defScope s_over) := ⟨rfl, rfl, rfl, by decide +kernel, rfl, by decide +kernel, by decide +kernel⟩
theorem ok_over (T : Txt K mg) (H_init : FnOk P w K mg base (L2.CX P w) 1 T.a_init T.d_init ["self", "value"] (spInit K)) (H_check_fraction : FnG P w K mg base 11 T.a_check_fraction T.d_check_fraction ["value"] (spF K mg 1 f_check_fraction)) (H_built_anew : FnG P w K mg base 10 T.a_built_anew T.d_built_anew ["value"] (spF K mg 1 (f_built_anew 8))) (H_divided : FnG P w K mg base 4 T.a_divided T.d_divided ["one", "other"] (spF K mg 2 f_divided)) : FnG P w K mg base 12 T.a_over T.d_over ["one", "other"] (spF K mg 2 f_over) := fn_ok T.F_over sc_over fun cdv A outer s H E hr hG tk =>
    js_cons (js_expr (j_call tk H_check_fraction (hr.mono (by decide)) hG T.m_check_fraction T.k_check_fraction T.b_check_fraction (j_cons (j_v 0) (j_nil)) (len_cons (len_nil))))
        (js_cons (js_expr (j_call tk H_check_fraction (hr.mono (by decide)) hG T.m_check_fraction T.k_check_fraction T.b_check_fraction (j_cons (j_v 1) (j_nil)) (len_cons (len_nil))))
        (js_cons (js_if (j_tcmp (o_eq hr.units) calm_eq (j_v 1) (j_globT T.c_ZERO T.z_ZERO (fun _ => rds_ints [0, 1])) (nomark _)) (js_one (js_raise rfl tk T.e_InvalidFraction T.t_init H_init T.b_init (hr.mono (by decide)) (j_call tk H_built_anew (hr.mono (by decide)) hG T.m_built_anew T.k_built_anew T.b_built_anew (j_cons (j_v 1) (j_nil)) (len_cons (len_nil))))) (js_nil))
        (js_one (js_ret (j_call tk H_divided (hr.mono (by decide)) hG T.m_divided T.k_divided T.b_divided (j_cons (j_v 0) (j_cons (j_v 1) (j_nil))) (len_cons (len_cons (len_nil))))))))
theorem sc_order : FnScope n_order ["one", "other"] (defScope s_order) := ⟨rfl, rfl, rfl, by decide +kernel, rfl, by decide +kernel, by decide +kernel⟩
theorem ok_order (T : Txt K mg) : FnG P w K mg base 3 T.a_order T.d_order ["one", "other"] (spF K mg 2 f_order) := fn_ok T.F_order sc_order fun cdv A outer s H E hr hG tk =>
    js_cons (js_par 2 3 rfl sc_order.nd rfl rfl (by decide) rfl rfl (j_op o_mul calm_mul (j_ix (j_v 0) (j_int)) (j_ix (j_v 1) (j_int))) (j_op o_mul calm_mul (j_ix (j_v 1) (j_int)) (j_ix (j_v 0) (j_int))) rfl)
        (js_cons (js_if (j_tcmp o_lt calm_int2 (j_v 2) (j_v 3) (nomark _)) (js_one (js_ret (j_un o_neg calm_neg (j_int)))) (js_nil))
        (js_one (js_ret (j_if (j_tcmp o_gt calm_int2 (j_v 2) (j_v 3) (nomark _)) (j_int) (j_int)))))
theorem sc_compared : FnScope n_compared ["one", "other"] (defScope s_compared) := ⟨rfl, rfl, rfl, by decide +kernel, rfl, by decide +kernel, by decide +kernel⟩
theorem ok_compared (T : Txt K mg) (H_check_fraction : FnG P w K mg base 11 T.a_check_fraction T.d_check_fraction ["value"] (spF K mg 1 f_check_fraction)) (H_order : FnG P w K mg base 3 T.a_order T.d_order ["one", "other"] (spF K mg 2 f_order)) : FnG P w K mg base 12 T.a_compared T.d_compared ["one", "other"] (spF K mg 2 f_compared) := fn_ok T.F_compared sc_compared fun cdv A outer s H E hr hG tk =>
    js_cons (js_expr (j_call tk H_check_fraction (hr.mono (by decide)) hG T.m_check_fraction T.k_check_fraction T.b_check_fraction (j_cons (j_v 0) (j_nil)) (len_cons (len_nil))))
        (js_cons (js_expr (j_call tk H_check_fraction (hr.mono (by decide)) hG T.m_check_fraction T.k_check_fraction T.b_check_fraction (j_cons (j_v 1) (j_nil)) (len_cons (len_nil))))
        (js_one (js_ret (j_call tk H_order (hr.mono (by decide)) hG T.m_order T.k_order T.b_order (j_cons (j_v 0) (j_cons (j_v 1) (j_nil))) (len_cons (len_cons (len_nil)))))))
theorem sc_total : FnScope n_total ["fractions"] (defScope s_total) := ⟨rfl, rfl, rfl, by decide +kernel, rfl, by decide +kernel, by decide +kernel⟩
theorem ok_total (T : Txt K mg) (H_added : FnG P w K mg base 4 T.a_added T.d_added ["one", "other"] (spF K mg 2 f_added)) : FnG P w K mg base 5 T.a_total T.d_total ["fractions"] (spF K mg 1 f_total) := fn_ok T.F_total sc_total fun cdv A outer s H E hr hG tk =>
    js_cons (js_set 1 sc_total.nd rfl (Or.inl rfl) (j_globT T.c_ZERO T.z_ZERO (fun _ => rds_ints [0, 1])))
        (js_cons (js_for (passes_of rfl) rfl (j_src (j_v 0)) (jg_name 2 sc_total.nd rfl (Or.inl rfl)) (js_one (js_set 1 sc_total.nd rfl (Or.inl rfl) (j_call tk H_added (hr.mono (by decide)) hG T.m_added T.k_added T.b_added (j_cons (j_v 1) (j_cons (j_v 2) (j_nil))) (len_cons (len_cons (len_nil)))))))
        (js_one (js_ret (j_v 1))))
theorem sc_sum_of : FnScope n_sum_of ["fractions"] (defScope s_sum_of) := ⟨rfl, rfl, rfl, by decide +kernel, rfl, by decide +kernel, by decide +kernel⟩
theorem ok_sum_of (T : Txt K mg) (H_check_fraction : FnG P w K mg base 11 T.a_check_fraction T.d_check_fraction ["value"] (spF K mg 1 f_check_fraction)) (H_total : FnG P w K mg base 5 T.a_total T.d_total ["fractions"] (spF K mg 1 f_total)) : FnG P w K mg base 12 T.a_sum_of T.d_sum_of ["fractions"] (spF K mg 1 f_sum_of) := fn_ok T.F_sum_of sc_sum_of fun cdv A outer s H E hr hG tk =>
    js_cons (js_for (passes_of rfl) rfl (j_src (j_v 0)) (jg_name 1 sc_sum_of.nd rfl (Or.inl rfl)) (js_one (js_expr (j_call tk H_check_fraction (hr.mono (by decide)) hG T.m_check_fraction T.k_check_fraction T.b_check_fraction (j_cons (j_v 1) (j_nil)) (len_cons (len_nil))))))
        (js_one (js_ret (j_call tk H_total (hr.mono (by decide)) hG T.m_total T.k_total T.b_total (j_cons (j_v 0) (j_nil)) (len_cons (len_nil)))))
theorem sc_fraction : FnScope n_fraction ["above", "below"] (defScope s_fraction) := ⟨rfl, rfl, rfl, by decide +kernel, rfl, by decide +kernel, by decide +kernel⟩
theorem ok_fraction (T : Txt K mg) (H_init : FnOk P w K mg base (L2.CX P w) 1 T.a_init T.d_init ["self", "value"] (spInit K)) (H_reduced : FnG P w K mg base 3 T.a_reduced T.d_reduced ["above", "below"] (spF K mg 2 f_reduced)) : FnG P w K mg base 4 T.a_fraction T.d_fraction ["above", "below"] (spF K mg 2 f_fraction) := fn_ok T.F_fraction sc_fraction fun cdv A outer s H E hr hG tk =>
    js_cons (js_if (j_tcmp (o_eq hr.units) calm_eq (j_v 1) (j_int) (nomark _)) (js_one (js_raise rfl tk T.e_InvalidNumber T.t_init H_init T.b_init (hr.mono (by decide)) (j_v 1))) (js_nil))
        (js_one (js_ret (j_call tk H_reduced (hr.mono (by decide)) hG T.m_reduced T.k_reduced T.b_reduced (j_cons (j_v 0) (j_cons (j_v 1) (j_nil))) (len_cons (len_cons (len_nil))))))
theorem sc_caught : FnScope n_caught ["_law_way", "_law_one", "_law_other", "_law_parts"] (defScope s_caught) := ⟨rfl, rfl, rfl, by decide +kernel, rfl, by decide +kernel, by decide +kernel⟩
theorem ok_caught (T : Txt K mg) (H_plus : FnG P w K mg base 12 T.a_plus T.d_plus ["one", "other"] (spF K mg 2 f_plus)) (H_less : FnG P w K mg base 12 T.a_less T.d_less ["one", "other"] (spF K mg 2 f_less)) (H_times : FnG P w K mg base 12 T.a_times T.d_times ["one", "other"] (spF K mg 2 f_times)) (H_over : FnG P w K mg base 12 T.a_over T.d_over ["one", "other"] (spF K mg 2 f_over)) (H_compared : FnG P w K mg base 12 T.a_compared T.d_compared ["one", "other"] (spF K mg 2 f_compared)) (H_sum_of : FnG P w K mg base 12 T.a_sum_of T.d_sum_of ["fractions"] (spF K mg 1 f_sum_of)) (H_fraction : FnG P w K mg base 4 T.a_fraction T.d_fraction ["above", "below"] (spF K mg 2 f_fraction)) : FnG P w K mg base 13 T.a_caught T.d_caught ["_law_way", "_law_one", "_law_other", "_law_parts"] (spF K mg 4 f_caught) := fn_ok T.F_caught sc_caught fun cdv A outer s H E hr hG tk =>
    js_cons (js_set 4 sc_caught.nd rfl (Or.inl rfl) (j_non))
        (js_cons (js_try 5 rfl rfl rfl sc_caught.nd rfl rfl ⟨rfl, by decide, Or.inl T.c_CaskError⟩ tk T.x_CaskError (fun W pn xe tk hp => js_one (js_if (j_tcmp (o_eq hr.units) calm_eq (j_v 0) (j_int) (nomark _)) (js_one (js_expr (j_call tk H_plus (hr.mono (by decide)) hG T.m_plus T.k_plus T.b_plus (j_cons (j_v 1) (j_cons (j_v 2) (j_nil))) (len_cons (len_cons (len_nil)))))) (js_one (js_if (j_tcmp (o_eq hr.units) calm_eq (j_v 0) (j_int) (nomark _)) (js_one (js_expr (j_call tk H_less (hr.mono (by decide)) hG T.m_less T.k_less T.b_less (j_cons (j_v 1) (j_cons (j_v 2) (j_nil))) (len_cons (len_cons (len_nil)))))) (js_one (js_if (j_tcmp (o_eq hr.units) calm_eq (j_v 0) (j_int) (nomark _)) (js_one (js_expr (j_call tk H_times (hr.mono (by decide)) hG T.m_times T.k_times T.b_times (j_cons (j_v 1) (j_cons (j_v 2) (j_nil))) (len_cons (len_cons (len_nil)))))) (js_one (js_if (j_tcmp (o_eq hr.units) calm_eq (j_v 0) (j_int) (nomark _)) (js_one (js_expr (j_call tk H_over (hr.mono (by decide)) hG T.m_over T.k_over T.b_over (j_cons (j_v 1) (j_cons (j_v 2) (j_nil))) (len_cons (len_cons (len_nil)))))) (js_one (js_if (j_tcmp (o_eq hr.units) calm_eq (j_v 0) (j_int) (nomark _)) (js_one (js_expr (j_call tk H_compared (hr.mono (by decide)) hG T.m_compared T.k_compared T.b_compared (j_cons (j_v 1) (j_cons (j_v 2) (j_nil))) (len_cons (len_cons (len_nil)))))) (js_one (js_if (j_tcmp (o_eq hr.units) calm_eq (j_v 0) (j_int) (nomark _)) (js_one (js_expr (j_call tk H_sum_of (hr.mono (by decide)) hG T.m_sum_of T.k_sum_of T.b_sum_of (j_cons (j_op o_add calm_add (j_op o_add calm_add (j_op o_add calm_add (j_v 3) (j_lst (j_cons (j_v 1) (j_nil)))) (j_v 3)) (j_lst (j_cons (j_v 2) (j_nil)))) (j_nil)) (len_cons (len_nil))))) (js_one (js_expr (j_call tk H_fraction (hr.mono (by decide)) hG T.m_fraction T.k_fraction T.b_fraction (j_cons (j_v 1) (j_cons (j_v 2) (j_nil))) (len_cons (len_cons (len_nil))))))))))))))))))
        (fun a pn => js_one (js_set 4 sc_caught.nd rfl (Or.inl rfl) (j_v 5))))
        (js_one (js_ret (j_v 4))))
theorem sc_refused : FnScope n_refused ["_law_way", "_law_one", "_law_other", "_law_parts", "_law_bad"] (defScope s_refused) := ⟨rfl, rfl, rfl, by decide +kernel, rfl, by decide +kernel, by decide +kernel⟩
theorem ok_refused (T : Txt K mg) (H_caught : FnG P w K mg base 13 T.a_caught T.d_caught ["_law_way", "_law_one", "_law_other", "_law_parts"] (spF K mg 4 f_caught)) : FnG P w K mg base 14 T.a_refused T.d_refused ["_law_way", "_law_one", "_law_other", "_law_parts", "_law_bad"] (spF K mg 5 f_refused) := fn_ok T.F_refused sc_refused fun cdv A outer s H E hr hG tk =>
    js_cons (js_set 5 sc_refused.nd rfl (Or.inl rfl) (j_call tk H_caught (hr.mono (by decide)) hG T.m_caught T.k_caught T.b_caught (j_cons (j_v 0) (j_cons (j_v 1) (j_cons (j_v 2) (j_cons (j_v 3) (j_nil))))) (len_cons (len_cons (len_cons (len_cons (len_nil)))))))
        (js_one (js_ret (j_andV (j_isE T.errs T.n_isinstance (j_v 5) (pe_glob (v := V.ref T.a_InvalidFraction) rfl T.c_InvalidFraction rfl) (fun _ h => h) T.i_InvalidFraction) (j_one (j_cmp (o_eq hr.units) calm_eq (j_callB (c_repr hr.units hG) calm_repr T.n_repr bt_repr (j_cons (j_val T.errs (j_v 5)) (j_nil))) (j_callB (c_repr hr.units hG) calm_repr T.n_repr bt_repr (j_cons (j_v 4) (j_nil))) (nomark _))))))
theorem sc_is_from_zero : FnScope n_is_from_zero ["value"] (defScope s_is_from_zero) := ⟨rfl, rfl, rfl, by decide +kernel, rfl, by decide +kernel, by decide +kernel⟩
theorem ok_is_from_zero (T : Txt K mg) (H_is_fraction : FnG P w K mg base 4 T.a_is_fraction T.d_is_fraction ["value"] (spF K mg 1 f_is_fraction)) : FnG P w K mg base 5 T.a_is_from_zero T.d_is_from_zero ["value"] (spF K mg 1 f_is_from_zero) := fn_ok T.F_is_from_zero sc_is_from_zero fun cdv A outer s H E hr hG tk =>
    js_one (js_ret (j_andV (j_call tk H_is_fraction (hr.mono (by decide)) hG T.m_is_fraction T.k_is_fraction T.b_is_fraction (j_cons (j_v 0) (j_nil)) (len_cons (len_nil))) (j_one (j_cmp o_ge calm_int2 (j_ix (j_v 0) (j_int)) (j_int) (nomark _)))))
theorem sc_is_share : FnScope n_is_share ["value"] (defScope s_is_share) := ⟨rfl, rfl, rfl, by decide +kernel, rfl, by decide +kernel, by decide +kernel⟩
theorem ok_is_share (T : Txt K mg) (H_is_from_zero : FnG P w K mg base 5 T.a_is_from_zero T.d_is_from_zero ["value"] (spF K mg 1 f_is_from_zero)) : FnG P w K mg base 6 T.a_is_share T.d_is_share ["value"] (spF K mg 1 f_is_share) := fn_ok T.F_is_share sc_is_share fun cdv A outer s H E hr hG tk =>
    js_one (js_ret (j_andV (j_call tk H_is_from_zero (hr.mono (by decide)) hG T.m_is_from_zero T.k_is_from_zero T.b_is_from_zero (j_cons (j_v 0) (j_nil)) (len_cons (len_nil))) (j_one (j_cmp o_le calm_int2 (j_ix (j_v 0) (j_int)) (j_ix (j_v 0) (j_int)) (nomark _)))))
theorem sc_refusals : FnScope n_refusals ["_law_jug_here", "_law_one", "_law_other", "_law_parts"] (defScope s_refusals) := ⟨rfl, rfl, rfl, by decide +kernel, rfl, by decide +kernel, by decide +kernel⟩
theorem ok_refusals (T : Txt K mg) (H_odd : FnG P w K mg base 4 T.a_odd T.d_odd ["_law_jug_here", "_law_one"] (spF K mg 2 f_odd)) (H_is_fraction : FnG P w K mg base 4 T.a_is_fraction T.d_is_fraction ["value"] (spF K mg 1 f_is_fraction)) (H_is_share : FnG P w K mg base 6 T.a_is_share T.d_is_share ["value"] (spF K mg 1 f_is_share)) (H_drop : FnG P w K mg base 3 T.a_drop T.d_drop ["_law_jug_here", "_law_many"] (spF K mg 2 f_drop)) (H_refused : FnG P w K mg base 14 T.a_refused T.d_refused ["_law_way", "_law_one", "_law_other", "_law_parts", "_law_bad"] (spF K mg 5 f_refused)) (H_caught : FnG P w K mg base 13 T.a_caught T.d_caught ["_law_way", "_law_one", "_law_other", "_law_parts"] (spF K mg 4 f_caught)) : FnG P w K mg base 15 T.a_refusals T.d_refusals ["_law_jug_here", "_law_one", "_law_other", "_law_parts"] (spF K mg 4 f_refusals) := fn_ok T.F_refusals sc_refusals fun cdv A outer s H E hr hG tk =>
    js_cons (js_set 4 sc_refusals.nd rfl (Or.inl rfl) (j_call tk H_odd (hr.mono (by decide)) hG T.m_odd T.k_odd T.b_odd (j_cons (j_v 0) (j_cons (j_v 1) (j_nil))) (len_cons (len_cons (len_nil)))))
        (js_cons (js_if (j_pw (j_or (j_tcmp o_isnot calm_is (j_call tk H_is_fraction (hr.mono (by decide)) hG T.m_is_fraction T.k_is_fraction T.b_is_fraction (j_cons (j_v 4) (j_nil)) (len_cons (len_nil))) (j_bl) (nomark _)) (j_or1 (j_tcmp o_isnot calm_is (j_call tk H_is_share (hr.mono (by decide)) hG T.m_is_share T.k_is_share T.b_is_share (j_cons (j_v 4) (j_nil)) (len_cons (len_nil))) (j_bl) (nomark _))))) (js_one (js_ret (j_bl))) (js_nil))
        (js_cons (js_set 5 sc_refusals.nd rfl (Or.inl rfl) (j_call tk H_drop (hr.mono (by decide)) hG T.m_drop T.k_drop T.b_drop (j_cons (j_v 0) (j_cons (j_int) (j_nil))) (len_cons (len_cons (len_nil)))))
        (js_cons (js_if (j_pw (j_or (j_not (j_t (j_call tk H_refused (hr.mono (by decide)) hG T.m_refused T.k_refused T.b_refused (j_cons (j_v 5) (j_cons (j_v 4) (j_cons (j_v 2) (j_cons (j_v 3) (j_cons (j_v 4) (j_nil)))))) (len_cons (len_cons (len_cons (len_cons (len_cons (len_nil))))))))) (j_or1 (j_not (j_t (j_call tk H_refused (hr.mono (by decide)) hG T.m_refused T.k_refused T.b_refused (j_cons (j_v 5) (j_cons (j_v 1) (j_cons (j_v 4) (j_cons (j_v 3) (j_cons (j_v 4) (j_nil)))))) (len_cons (len_cons (len_cons (len_cons (len_cons (len_nil)))))))))))) (js_one (js_ret (j_bl))) (js_nil))
        (js_cons (js_if (j_not (j_t (j_call tk H_refused (hr.mono (by decide)) hG T.m_refused T.k_refused T.b_refused (j_cons (j_v 5) (j_cons (j_v 4) (j_cons (j_call tk H_odd (hr.mono (by decide)) hG T.m_odd T.k_odd T.b_odd (j_cons (j_v 0) (j_cons (j_v 2) (j_nil))) (len_cons (len_cons (len_nil)))) (j_cons (j_v 3) (j_cons (j_v 4) (j_nil)))))) (len_cons (len_cons (len_cons (len_cons (len_cons (len_nil))))))))) (js_one (js_ret (j_bl))) (js_nil))
        (js_cons (js_if (j_pw (j_or (j_not (j_t (j_call tk H_refused (hr.mono (by decide)) hG T.m_refused T.k_refused T.b_refused (j_cons (j_int) (j_cons (j_v 4) (j_cons (j_tup (j_cons (j_int) (j_cons (j_int) (j_nil)))) (j_cons (j_lst (j_nil)) (j_cons (j_v 4) (j_nil)))))) (len_cons (len_cons (len_cons (len_cons (len_cons (len_nil))))))))) (j_or1 (j_not (j_t (j_call tk H_refused (hr.mono (by decide)) hG T.m_refused T.k_refused T.b_refused (j_cons (j_int) (j_cons (j_v 1) (j_cons (j_tup (j_cons (j_int) (j_cons (j_int) (j_nil)))) (j_cons (j_lst (j_nil)) (j_cons (j_tup (j_cons (j_int) (j_cons (j_int) (j_nil)))) (j_nil)))))) (len_cons (len_cons (len_cons (len_cons (len_cons (len_nil)))))))))))) (js_one (js_ret (j_bl))) (js_nil))
        (js_one (js_ret (j_cmp o_is calm_is (j_call tk H_caught (hr.mono (by decide)) hG T.m_caught T.k_caught T.b_caught (j_cons (j_op o_mod calm_int2 (j_callTy c_int calm_int T.n_int bt_int (j_cons (j_v 5) (j_nil))) (j_int)) (j_cons (j_v 1) (j_cons (j_v 2) (j_cons (j_v 3) (j_nil))))) (len_cons (len_cons (len_cons (len_cons (len_nil)))))) (j_non) (nomark _)))))))))
theorem sc_same : FnScope n_same ["_law_found", "_law_due"] (defScope s_same) := ⟨rfl, rfl, rfl, by decide +kernel, rfl, by decide +kernel, by decide +kernel⟩
theorem ok_same (T : Txt K mg) : ∀ n : Nat, n ≤ 8 → FnG P w K mg base (2 + n) T.a_same T.d_same ["_law_found", "_law_due"] (spF K mg 2 (f_same n))
  | 0, _ => ⟨fun vs H Q E h => h.1, fun A outer s H args us vs Q E _ _ _ _ _ want => by
      obtain ⟨_, ι, S, ds, _, _, f⟩ := want
      exact f.elim⟩
  | n + 1, hn => by
    have ih := ok_same T n (by omega)
    exact fn_ok T.F_same sc_same fun cdv A outer s H E hr hG tk => 
    js_cons (js_if (j_t (j_isTy T.n_isinstance T.n_tuple bt_tuple (by decide +kernel) (j_v 1))) (js_cons (js_if (j_pw (j_or (j_not (j_t (j_isTy T.n_isinstance T.n_tuple bt_tuple (by decide +kernel) (j_v 0)))) (j_or1 (j_tcmp (o_ne hr.units) calm_eq (j_callB c_len calm_len T.n_len bt_len (j_cons (j_v 0) (j_nil))) (j_callB c_len calm_len T.n_len bt_len (j_cons (j_v 1) (j_nil))) (nomark _))))) (js_one (js_ret (j_bl))) (js_nil))
        (js_one (js_ret (j_callBL (c_all rfl) calm_all T.n_all bt_all (j_lc [("_law_k", 2)] rfl sc_same.nd (j_range1 T.n_range (j_callB c_len calm_len T.n_len bt_len (j_cons (j_v 1) (j_nil)))) (blk_ok rfl rfl) (fun _ _ _ _ _ => jg_name 2 sc_same.nd rfl (Or.inl rfl)) (fun _ _ _ _ _ => jc_nil) (fun _ _ _ _ _ => j_call takes0 ih hr hG T.m_same T.k_same T.b_same (j_cons (j_ix (j_v 0) (j_v 2)) (j_cons (j_ix (j_v 1) (j_v 2)) (j_nil))) (len_cons (len_cons (len_nil)))) (by decide)))))) (js_nil))
        (js_cons (js_if (j_t (j_isTy T.n_isinstance T.n_bool bt_bool (by decide +kernel) (j_v 1))) (js_one (js_ret (j_andV (j_isTy T.n_isinstance T.n_bool bt_bool (by decide +kernel) (j_v 0)) (j_one (j_cmp (o_eq hr.units) calm_eq (j_v 0) (j_v 1) (nomark _)))))) (js_nil))
        (js_one (js_ret (j_andV (j_isTy T.n_isinstance T.n_int bt_int (by decide +kernel) (j_v 0)) (j_andV (j_notV (j_isTy T.n_isinstance T.n_bool bt_bool (by decide +kernel) (j_v 0))) (j_one (j_cmp (o_eq hr.units) calm_eq (j_v 0) (j_v 1) (nomark _))))))))
theorem sc_told : FnScope n_told ["_law_one"] (defScope s_told) := ⟨rfl, rfl, rfl, by decide +kernel, rfl, by decide +kernel, by decide +kernel⟩
theorem ok_told (T : Txt K mg) (H_is_fraction : FnG P w K mg base 4 T.a_is_fraction T.d_is_fraction ["value"] (spF K mg 1 f_is_fraction)) (H_is_share : FnG P w K mg base 6 T.a_is_share T.d_is_share ["value"] (spF K mg 1 f_is_share)) (H_same : FnG P w K mg base 10 T.a_same T.d_same ["_law_found", "_law_due"] (spF K mg 2 (f_same 8))) : FnG P w K mg base 11 T.a_told T.d_told ["_law_one"] (spF K mg 1 f_told) := fn_ok T.F_told sc_told fun cdv A outer s H E hr hG tk =>
    js_cons (js_set 1 sc_told.nd rfl (Or.inl rfl) (j_andV (j_cmp o_le calm_int2 (j_int) (j_ix (j_v 0) (j_int)) (nomark _)) (j_one (j_cmp o_le calm_int2 (j_ix (j_v 0) (j_int)) (j_ix (j_v 0) (j_int)) (nomark _)))))
        (js_one (js_ret (j_andV (j_cmp o_is calm_is (j_call tk H_is_fraction (hr.mono (by decide)) hG T.m_is_fraction T.k_is_fraction T.b_is_fraction (j_cons (j_v 0) (j_nil)) (len_cons (len_nil))) (j_bl) (nomark _)) (j_one (j_call tk H_same (hr.mono (by decide)) hG T.m_same T.k_same T.b_same (j_cons (j_call tk H_is_share (hr.mono (by decide)) hG T.m_is_share T.k_is_share T.b_is_share (j_cons (j_v 0) (j_nil)) (len_cons (len_nil))) (j_cons (j_v 1) (j_nil))) (len_cons (len_cons (len_nil))))))))
theorem sc_quotient : FnScope n_quotient ["_law_one", "_law_other"] (defScope s_quotient) := ⟨rfl, rfl, rfl, by decide +kernel, rfl, by decide +kernel, by decide +kernel⟩
theorem ok_quotient (T : Txt K mg) (H_low : FnG P w K mg base 3 T.a_low T.d_low ["_law_above", "_law_below"] (spF K mg 2 f_low)) : FnG P w K mg base 4 T.a_quotient T.d_quotient ["_law_one", "_law_other"] (spF K mg 2 f_quotient) := fn_ok T.F_quotient sc_quotient fun cdv A outer s H E hr hG tk =>
    js_cons (js_set 2 sc_quotient.nd rfl (Or.inl rfl) (j_op o_mul calm_mul (j_ix (j_v 0) (j_int)) (j_ix (j_v 1) (j_int))))
        (js_cons (js_set 3 sc_quotient.nd rfl (Or.inl rfl) (j_op o_mul calm_mul (j_ix (j_v 0) (j_int)) (j_ix (j_v 1) (j_int))))
        (js_cons (js_if (j_tcmp o_lt calm_int2 (j_v 3) (j_int) (nomark _)) (js_one (js_ret (j_call tk H_low (hr.mono (by decide)) hG T.m_low T.k_low T.b_low (j_cons (j_op o_sub calm_int2 (j_int) (j_v 2)) (j_cons (j_op o_sub calm_int2 (j_int) (j_v 3)) (j_nil))) (len_cons (len_cons (len_nil)))))) (js_nil))
        (js_one (js_ret (j_call tk H_low (hr.mono (by decide)) hG T.m_low T.k_low T.b_low (j_cons (j_v 2) (j_cons (j_v 3) (j_nil))) (len_cons (len_cons (len_nil))))))))
theorem sc_worked : FnScope n_worked ["_law_one", "_law_other"] (defScope s_worked) := ⟨rfl, rfl, rfl, by decide +kernel, rfl, by decide +kernel, by decide +kernel⟩
theorem ok_worked (T : Txt K mg) (H_plus : FnG P w K mg base 12 T.a_plus T.d_plus ["one", "other"] (spF K mg 2 f_plus)) (H_low : FnG P w K mg base 3 T.a_low T.d_low ["_law_above", "_law_below"] (spF K mg 2 f_low)) (H_same : FnG P w K mg base 10 T.a_same T.d_same ["_law_found", "_law_due"] (spF K mg 2 (f_same 8))) (H_less : FnG P w K mg base 12 T.a_less T.d_less ["one", "other"] (spF K mg 2 f_less)) (H_times : FnG P w K mg base 12 T.a_times T.d_times ["one", "other"] (spF K mg 2 f_times)) (H_over : FnG P w K mg base 12 T.a_over T.d_over ["one", "other"] (spF K mg 2 f_over)) (H_quotient : FnG P w K mg base 4 T.a_quotient T.d_quotient ["_law_one", "_law_other"] (spF K mg 2 f_quotient)) (H_compared : FnG P w K mg base 12 T.a_compared T.d_compared ["one", "other"] (spF K mg 2 f_compared)) : FnG P w K mg base 13 T.a_worked T.d_worked ["_law_one", "_law_other"] (spF K mg 2 f_worked) := fn_ok T.F_worked sc_worked fun cdv A outer s H E hr hG tk =>
    js_cons (js_set 2 sc_worked.nd rfl (Or.inl rfl) (j_op o_mul calm_mul (j_ix (j_v 0) (j_int)) (j_ix (j_v 1) (j_int))))
        (js_cons (js_set 3 sc_worked.nd rfl (Or.inl rfl) (j_op o_mul calm_mul (j_ix (j_v 1) (j_int)) (j_ix (j_v 0) (j_int))))
        (js_cons (js_if (j_not (j_t (j_call tk H_same (hr.mono (by decide)) hG T.m_same T.k_same T.b_same (j_cons (j_call tk H_plus (hr.mono (by decide)) hG T.m_plus T.k_plus T.b_plus (j_cons (j_v 0) (j_cons (j_v 1) (j_nil))) (len_cons (len_cons (len_nil)))) (j_cons (j_call tk H_low (hr.mono (by decide)) hG T.m_low T.k_low T.b_low (j_cons (j_op o_add calm_add (j_v 2) (j_v 3)) (j_cons (j_op o_mul calm_mul (j_ix (j_v 0) (j_int)) (j_ix (j_v 1) (j_int))) (j_nil))) (len_cons (len_cons (len_nil)))) (j_nil))) (len_cons (len_cons (len_nil)))))) (js_one (js_ret (j_bl))) (js_nil))
        (js_cons (js_if (j_not (j_t (j_call tk H_same (hr.mono (by decide)) hG T.m_same T.k_same T.b_same (j_cons (j_call tk H_less (hr.mono (by decide)) hG T.m_less T.k_less T.b_less (j_cons (j_v 0) (j_cons (j_v 1) (j_nil))) (len_cons (len_cons (len_nil)))) (j_cons (j_call tk H_low (hr.mono (by decide)) hG T.m_low T.k_low T.b_low (j_cons (j_op o_sub calm_int2 (j_v 2) (j_v 3)) (j_cons (j_op o_mul calm_mul (j_ix (j_v 0) (j_int)) (j_ix (j_v 1) (j_int))) (j_nil))) (len_cons (len_cons (len_nil)))) (j_nil))) (len_cons (len_cons (len_nil)))))) (js_one (js_ret (j_bl))) (js_nil))
        (js_cons (js_if (j_not (j_t (j_call tk H_same (hr.mono (by decide)) hG T.m_same T.k_same T.b_same (j_cons (j_call tk H_times (hr.mono (by decide)) hG T.m_times T.k_times T.b_times (j_cons (j_v 0) (j_cons (j_v 1) (j_nil))) (len_cons (len_cons (len_nil)))) (j_cons (j_call tk H_low (hr.mono (by decide)) hG T.m_low T.k_low T.b_low (j_cons (j_op o_mul calm_mul (j_ix (j_v 0) (j_int)) (j_ix (j_v 1) (j_int))) (j_cons (j_op o_mul calm_mul (j_ix (j_v 0) (j_int)) (j_ix (j_v 1) (j_int))) (j_nil))) (len_cons (len_cons (len_nil)))) (j_nil))) (len_cons (len_cons (len_nil)))))) (js_one (js_ret (j_bl))) (js_nil))
        (js_cons (js_if (j_pw (j_and (j_tcmp (o_ne hr.units) calm_eq (j_ix (j_v 1) (j_int)) (j_int) (nomark _)) (j_and1 (j_not (j_t (j_call tk H_same (hr.mono (by decide)) hG T.m_same T.k_same T.b_same (j_cons (j_call tk H_over (hr.mono (by decide)) hG T.m_over T.k_over T.b_over (j_cons (j_v 0) (j_cons (j_v 1) (j_nil))) (len_cons (len_cons (len_nil)))) (j_cons (j_call tk H_quotient (hr.mono (by decide)) hG T.m_quotient T.k_quotient T.b_quotient (j_cons (j_v 0) (j_cons (j_v 1) (j_nil))) (len_cons (len_cons (len_nil)))) (j_nil))) (len_cons (len_cons (len_nil))))))))) (js_one (js_ret (j_bl))) (js_nil))
        (js_one (js_ret (j_call tk H_same (hr.mono (by decide)) hG T.m_same T.k_same T.b_same (j_cons (j_call tk H_compared (hr.mono (by decide)) hG T.m_compared T.k_compared T.b_compared (j_cons (j_v 0) (j_cons (j_v 1) (j_nil))) (len_cons (len_cons (len_nil)))) (j_cons (j_op o_sub calm_int2 (j_callTy c_int calm_int T.n_int bt_int (j_cons (j_cmp o_gt calm_int2 (j_v 2) (j_v 3) (nomark _)) (j_nil))) (j_callTy c_int calm_int T.n_int bt_int (j_cons (j_cmp o_lt calm_int2 (j_v 2) (j_v 3) (nomark _)) (j_nil)))) (j_nil))) (len_cons (len_cons (len_nil)))))))))))
theorem sc_made : FnScope n_made ["_law_jug_here", "_law_one"] (defScope s_made) := ⟨rfl, rfl, rfl, by decide +kernel, rfl, by decide +kernel, by decide +kernel⟩
theorem ok_made (T : Txt K mg) (H_drop : FnG P w K mg base 3 T.a_drop T.d_drop ["_law_jug_here", "_law_many"] (spF K mg 2 f_drop)) (H_size : FnG P w K mg base 4 T.a_size T.d_size ["_law_jug_here"] (spF K mg 1 f_size)) (H_fraction : FnG P w K mg base 4 T.a_fraction T.d_fraction ["above", "below"] (spF K mg 2 f_fraction)) (H_quotient : FnG P w K mg base 4 T.a_quotient T.d_quotient ["_law_one", "_law_other"] (spF K mg 2 f_quotient)) (H_same : FnG P w K mg base 10 T.a_same T.d_same ["_law_found", "_law_due"] (spF K mg 2 (f_same 8))) (H_caught : FnG P w K mg base 13 T.a_caught T.d_caught ["_law_way", "_law_one", "_law_other", "_law_parts"] (spF K mg 4 f_caught)) : FnG P w K mg base 14 T.a_made T.d_made ["_law_jug_here", "_law_one"] (spF K mg 2 f_made) := fn_ok T.F_made sc_made fun cdv A outer s H E hr hG tk =>
    js_cons (js_set 2 sc_made.nd rfl (Or.inl rfl) (j_op o_mul calm_mul (j_ix (j_v 1) (j_int)) (j_op o_add calm_add (j_int) (j_call tk H_drop (hr.mono (by decide)) hG T.m_drop T.k_drop T.b_drop (j_cons (j_v 0) (j_cons (j_int) (j_nil))) (len_cons (len_cons (len_nil)))))))
        (js_cons (js_set 3 sc_made.nd rfl (Or.inl rfl) (j_op o_mul calm_mul (j_op o_add calm_add (j_int) (j_call tk H_size (hr.mono (by decide)) hG T.m_size T.k_size T.b_size (j_cons (j_v 0) (j_nil)) (len_cons (len_nil)))) (j_ix (j_lst (j_cons (j_int) (j_cons (j_op o_sub calm_int2 (j_int) (j_int)) (j_nil)))) (j_call tk H_drop (hr.mono (by decide)) hG T.m_drop T.k_drop T.b_drop (j_cons (j_v 0) (j_cons (j_int) (j_nil))) (len_cons (len_cons (len_nil)))))))
        (js_cons (js_if (j_not (j_t (j_call tk H_same (hr.mono (by decide)) hG T.m_same T.k_same T.b_same (j_cons (j_call tk H_fraction (hr.mono (by decide)) hG T.m_fraction T.k_fraction T.b_fraction (j_cons (j_v 2) (j_cons (j_v 3) (j_nil))) (len_cons (len_cons (len_nil)))) (j_cons (j_call tk H_quotient (hr.mono (by decide)) hG T.m_quotient T.k_quotient T.b_quotient (j_cons (j_tup (j_cons (j_v 2) (j_cons (j_int) (j_nil)))) (j_cons (j_tup (j_cons (j_v 3) (j_cons (j_int) (j_nil)))) (j_nil))) (len_cons (len_cons (len_nil)))) (j_nil))) (len_cons (len_cons (len_nil)))))) (js_one (js_ret (j_bl))) (js_nil))
        (js_cons (js_set 4 sc_made.nd rfl (Or.inl rfl) (j_call tk H_caught (hr.mono (by decide)) hG T.m_caught T.k_caught T.b_caught (j_cons (j_int) (j_cons (j_v 2) (j_cons (j_int) (j_cons (j_lst (j_nil)) (j_nil))))) (len_cons (len_cons (len_cons (len_cons (len_nil)))))))
        (js_one (js_ret (j_andV (j_isE T.errs T.n_isinstance (j_v 4) (pe_glob (v := V.ref T.a_InvalidNumber) rfl T.c_InvalidNumber rfl) (fun _ h => h) T.i_InvalidNumber) (j_one (j_call tk H_same (hr.mono (by decide)) hG T.m_same T.k_same T.b_same (j_cons (j_val T.errs (j_v 4)) (j_cons (j_int) (j_nil))) (len_cons (len_cons (len_nil)))))))))))
theorem sc_sum : FnScope n_sum ["_law_parts"] (defScope s_sum) := ⟨rfl, rfl, rfl, by decide +kernel, rfl, by decide +kernel, by decide +kernel⟩
theorem ok_sum (T : Txt K mg) (H_low : FnG P w K mg base 3 T.a_low T.d_low ["_law_above", "_law_below"] (spF K mg 2 f_low)) : FnG P w K mg base 4 T.a_sum T.d_sum ["_law_parts"] (spF K mg 1 f_sum) := fn_ok T.F_sum sc_sum fun cdv A outer s H E hr hG tk =>
    js_cons (js_set 1 sc_sum.nd rfl (Or.inl rfl) (j_tup (j_cons (j_int) (j_cons (j_int) (j_nil)))))
        (js_cons (js_for (passes_of rfl) rfl (j_src (j_v 0)) (jg_tup rfl (jgs_cons (jg_name 2 sc_sum.nd rfl (Or.inl rfl)) (jgs_cons (jg_name 3 sc_sum.nd rfl (Or.inl rfl)) (jgs_nil)))) (js_one (js_set 1 sc_sum.nd rfl (Or.inl rfl) (j_call tk H_low (hr.mono (by decide)) hG T.m_low T.k_low T.b_low (j_cons (j_op o_add calm_add (j_op o_mul calm_mul (j_ix (j_v 1) (j_int)) (j_v 3)) (j_op o_mul calm_mul (j_v 2) (j_ix (j_v 1) (j_int)))) (j_cons (j_op o_mul calm_mul (j_ix (j_v 1) (j_int)) (j_v 3)) (j_nil))) (len_cons (len_cons (len_nil)))))))
        (js_one (js_ret (j_v 1))))
theorem sc_right : FnScope n_right ["_law_jug_here"] (defScope s_right) := ⟨rfl, rfl, rfl, by decide +kernel, rfl, by decide +kernel, by decide +kernel⟩
theorem ok_right (T : Txt K mg) (H_draw : FnG P w K mg base 5 T.a_draw T.d_draw ["_law_jug_here"] (spF K mg 1 f_draw)) (H_second : FnG P w K mg base 6 T.a_second T.d_second ["_law_jug_here", "_law_one"] (spF K mg 2 f_second)) (H_drop : FnG P w K mg base 3 T.a_drop T.d_drop ["_law_jug_here", "_law_many"] (spF K mg 2 f_drop)) (H_told : FnG P w K mg base 11 T.a_told T.d_told ["_law_one"] (spF K mg 1 f_told)) (H_worked : FnG P w K mg base 13 T.a_worked T.d_worked ["_law_one", "_law_other"] (spF K mg 2 f_worked)) (H_sum_of : FnG P w K mg base 12 T.a_sum_of T.d_sum_of ["fractions"] (spF K mg 1 f_sum_of)) (H_sum : FnG P w K mg base 4 T.a_sum T.d_sum ["_law_parts"] (spF K mg 1 f_sum)) (H_same : FnG P w K mg base 10 T.a_same T.d_same ["_law_found", "_law_due"] (spF K mg 2 (f_same 8))) (H_made : FnG P w K mg base 14 T.a_made T.d_made ["_law_jug_here", "_law_one"] (spF K mg 2 f_made)) (H_refusals : FnG P w K mg base 15 T.a_refusals T.d_refusals ["_law_jug_here", "_law_one", "_law_other", "_law_parts"] (spF K mg 4 f_refusals)) : FnG P w K mg base 16 T.a_right T.d_right ["_law_jug_here"] (spF K mg 1 f_right) := fn_ok T.F_right sc_right fun cdv A outer s H E hr hG tk =>
    js_cons (js_set 1 sc_right.nd rfl (Or.inl rfl) (j_call tk H_draw (hr.mono (by decide)) hG T.m_draw T.k_draw T.b_draw (j_cons (j_v 0) (j_nil)) (len_cons (len_nil))))
        (js_cons (js_set 2 sc_right.nd rfl (Or.inl rfl) (j_call tk H_second (hr.mono (by decide)) hG T.m_second T.k_second T.b_second (j_cons (j_v 0) (j_cons (j_v 1) (j_nil))) (len_cons (len_cons (len_nil)))))
        (js_cons (js_lset 3 [("_law_turn", 4)] rfl sc_right.nd rfl rfl rfl (j_range1 T.n_range (j_call tk H_drop (hr.mono (by decide)) hG T.m_drop T.k_drop T.b_drop (j_cons (j_v 0) (j_cons (j_int) (j_nil))) (len_cons (len_cons (len_nil))))) (blk_ok rfl rfl) (fun _ _ _ _ _ => jg_name 4 sc_right.nd rfl (Or.inl rfl)) (fun _ _ _ _ _ => jc_nil) (fun _ _ _ _ _ => j_call takes0 H_draw (hr.mono (by decide)) hG T.m_draw T.k_draw T.b_draw (j_cons (j_v 0) (j_nil)) (len_cons (len_nil))) (by decide))
        (js_cons (js_set 5 sc_right.nd rfl (Or.inl rfl) (j_callTy c_list calm_list T.n_list bt_list (j_cons (j_v 3) (j_nil))))
        (js_cons (js_if (j_pw (j_or (j_not (j_t (j_call tk H_told (hr.mono (by decide)) hG T.m_told T.k_told T.b_told (j_cons (j_v 1) (j_nil)) (len_cons (len_nil))))) (j_or (j_not (j_t (j_call tk H_told (hr.mono (by decide)) hG T.m_told T.k_told T.b_told (j_cons (j_v 2) (j_nil)) (len_cons (len_nil))))) (j_or (j_not (j_t (j_call tk H_worked (hr.mono (by decide)) hG T.m_worked T.k_worked T.b_worked (j_cons (j_v 1) (j_cons (j_v 2) (j_nil))) (len_cons (len_cons (len_nil)))))) (j_or1 (j_not (j_t (j_call tk H_worked (hr.mono (by decide)) hG T.m_worked T.k_worked T.b_worked (j_cons (j_v 2) (j_cons (j_v 1) (j_nil))) (len_cons (len_cons (len_nil))))))))))) (js_one (js_ret (j_bl))) (js_nil))
        (js_cons (js_if (j_pw (j_or (j_not (j_t (j_call tk H_same (hr.mono (by decide)) hG T.m_same T.k_same T.b_same (j_cons (j_call tk H_sum_of (hr.mono (by decide)) hG T.m_sum_of T.k_sum_of T.b_sum_of (j_cons (j_v 5) (j_nil)) (len_cons (len_nil))) (j_cons (j_call tk H_sum (hr.mono (by decide)) hG T.m_sum T.k_sum T.b_sum (j_cons (j_v 3) (j_nil)) (len_cons (len_nil))) (j_nil))) (len_cons (len_cons (len_nil)))))) (j_or1 (j_tcmp (o_ne hr.units) calm_eq (j_v 5) (j_v 3) (nomark _))))) (js_one (js_ret (j_bl))) (js_nil))
        (js_cons (js_expr (j_append (j_v 5) (j_v 1)))
        (js_cons (js_if (j_pw (j_or (j_not (j_t (j_call tk H_same (hr.mono (by decide)) hG T.m_same T.k_same T.b_same (j_cons (j_call tk H_sum_of (hr.mono (by decide)) hG T.m_sum_of T.k_sum_of T.b_sum_of (j_cons (j_v 5) (j_nil)) (len_cons (len_nil))) (j_cons (j_call tk H_sum (hr.mono (by decide)) hG T.m_sum T.k_sum T.b_sum (j_cons (j_op o_add calm_add (j_v 3) (j_lst (j_cons (j_v 1) (j_nil)))) (j_nil)) (len_cons (len_nil))) (j_nil))) (len_cons (len_cons (len_nil)))))) (j_or1 (j_not (j_t (j_call tk H_made (hr.mono (by decide)) hG T.m_made T.k_made T.b_made (j_cons (j_v 0) (j_cons (j_v 1) (j_nil))) (len_cons (len_cons (len_nil))))))))) (js_one (js_ret (j_bl))) (js_nil))
        (js_one (js_ret (j_call tk H_refusals (hr.mono (by decide)) hG T.m_refusals T.k_refusals T.b_refusals (j_cons (j_v 0) (j_cons (j_v 1) (j_cons (j_v 2) (j_cons (j_v 3) (j_nil))))) (len_cons (len_cons (len_cons (len_cons (len_nil)))))))))))))))
theorem sc_jug : FnScope n_jug ["_law_cell", "_law_k"] (defScope s_jug) := ⟨rfl, rfl, rfl, by decide +kernel, rfl, by decide +kernel, by decide +kernel⟩
theorem ok_jug (T : Txt K mg) : FnG P w K mg base 3 T.a_jug T.d_jug ["_law_cell", "_law_k"] (spF K mg 2 f_jug) := fn_ok T.F_jug sc_jug fun cdv A outer s H E hr hG tk =>
    js_one (js_ret (j_lst (j_cons (j_callB (c_max2 rfl) calm_max2 T.n_max bt_max (j_cons (j_int) (j_cons (j_op o_sub calm_int2 (j_v 0) (j_op o_pow calm_int2 (j_int) (j_int))) (j_nil)))) (j_cons (j_op o_mod calm_int2 (j_callTy c_int calm_int T.n_int bt_int (j_cons (j_op o_add calm_add (j_op o_mul calm_mul (j_v 0) (j_int)) (j_op o_mul calm_mul (j_op o_add calm_add (j_v 1) (j_int)) (j_int))) (j_nil))) (j_op o_add calm_add (j_op o_pow calm_int2 (j_int) (j_int)) (j_int))) (j_cons (j_int) (j_nil))))))
theorem sc_law : FnScope n_law ["_law_script"] (defScope s_law) := ⟨rfl, rfl, rfl, by decide +kernel, rfl, by decide +kernel, by decide +kernel⟩
theorem ok_law (T : Txt K mg) (H_jug : FnG P w K mg base 3 T.a_jug T.d_jug ["_law_cell", "_law_k"] (spF K mg 2 f_jug)) (H_right : FnG P w K mg base 16 T.a_right T.d_right ["_law_jug_here"] (spF K mg 1 f_right)) : FnG P w K mg base 17 T.a_law T.d_law ["_law_script"] (spF K mg 1 f_law) := fn_ok T.F_law sc_law fun cdv A outer s H E hr hG tk =>
    js_cons (js_set 1 sc_law.nd rfl (Or.inl rfl) (j_op o_add calm_add (j_slice (j_v 0) (.none) (.some (j_int))) (j_op o_mul calm_mul (j_lst (j_cons (j_int) (j_nil))) (j_callTy c_int calm_int T.n_int bt_int (j_cons (j_cmp (o_eq hr.units) calm_eq (j_v 0) (j_lst (j_nil)) (nomark _)) (j_nil))))))
        (js_cons (js_for (passes_of rfl) rfl (j_range1 T.n_range (j_callB c_len calm_len T.n_len bt_len (j_cons (j_v 1) (j_nil)))) (jg_name 2 sc_law.nd rfl (Or.inl rfl)) (js_one (js_if (j_not (j_t (j_call tk H_right (hr.mono (by decide)) hG T.m_right T.k_right T.b_right (j_cons (j_call tk H_jug (hr.mono (by decide)) hG T.m_jug T.k_jug T.b_jug (j_cons (j_ix (j_v 1) (j_v 2)) (j_cons (j_v 2) (j_nil))) (len_cons (len_cons (len_nil)))) (j_nil)) (len_cons (len_nil))))) (js_one (js_ret (j_bl))) (js_nil))))
        (js_one (js_ret (j_bl))))
theorem law_runs (T : Txt K mg) : FnG P w K mg base 17 T.a_law T.d_law ["_law_script"] (spF K mg 1 f_law) := by
  have H_init := ok_initE (P := P) (w := w) (base := base) T
  have H_drop : FnG P w K mg base 3 T.a_drop T.d_drop ["_law_jug_here", "_law_many"] (spF K mg 2 f_drop) := ok_drop (P := P) (w := w) (base := base) T
  have H_size : FnG P w K mg base 4 T.a_size T.d_size ["_law_jug_here"] (spF K mg 1 f_size) := ok_size (P := P) (w := w) (base := base) T H_drop
  have H_low : FnG P w K mg base 3 T.a_low T.d_low ["_law_above", "_law_below"] (spF K mg 2 f_low) := ok_low (P := P) (w := w) (base := base) T
  have H_draw : FnG P w K mg base 5 T.a_draw T.d_draw ["_law_jug_here"] (spF K mg 1 f_draw) := ok_draw (P := P) (w := w) (base := base) T H_size H_drop H_low
  have H_second : FnG P w K mg base 6 T.a_second T.d_second ["_law_jug_here", "_law_one"] (spF K mg 2 f_second) := ok_second (P := P) (w := w) (base := base) T H_drop H_low H_draw
  have H_odd : FnG P w K mg base 4 T.a_odd T.d_odd ["_law_jug_here", "_law_one"] (spF K mg 2 f_odd) := ok_odd (P := P) (w := w) (base := base) T H_drop
  have H_is_integer : FnG P w K mg base 3 T.a_is_integer T.d_is_integer ["value"] (spF K mg 1 f_is_integer) := ok_is_integer (P := P) (w := w) (base := base) T
  have H_is_fraction : FnG P w K mg base 4 T.a_is_fraction T.d_is_fraction ["value"] (spF K mg 1 f_is_fraction) := ok_is_fraction (P := P) (w := w) (base := base) T H_is_integer
  have H_built_anew : FnG P w K mg base 10 T.a_built_anew T.d_built_anew ["value"] (spF K mg 1 (f_built_anew 8)) := ok_built_anew (P := P) (w := w) (base := base) T 8 (Nat.le_refl _)
  have H_check_fraction : FnG P w K mg base 11 T.a_check_fraction T.d_check_fraction ["value"] (spF K mg 1 f_check_fraction) := ok_check_fraction (P := P) (w := w) (base := base) T H_init H_is_fraction H_built_anew
  have H_reduced : FnG P w K mg base 3 T.a_reduced T.d_reduced ["above", "below"] (spF K mg 2 f_reduced) := ok_reduced (P := P) (w := w) (base := base) T
  have H_added : FnG P w K mg base 4 T.a_added T.d_added ["one", "other"] (spF K mg 2 f_added) := ok_added (P := P) (w := w) (base := base) T H_reduced
  have H_plus : FnG P w K mg base 12 T.a_plus T.d_plus ["one", "other"] (spF K mg 2 f_plus) := ok_plus (P := P) (w := w) (base := base) T H_check_fraction H_added
  have H_lessened : FnG P w K mg base 4 T.a_lessened T.d_lessened ["one", "other"] (spF K mg 2 f_lessened) := ok_lessened (P := P) (w := w) (base := base) T H_reduced
  have H_less : FnG P w K mg base 12 T.a_less T.d_less ["one", "other"] (spF K mg 2 f_less) := ok_less (P := P) (w := w) (base := base) T H_check_fraction H_lessened
  have H_multiplied : FnG P w K mg base 4 T.a_multiplied T.d_multiplied ["one", "other"] (spF K mg 2 f_multiplied) := ok_multiplied (P := P) (w := w) (base := base) T H_reduced
  have H_times : FnG P w K mg base 12 T.a_times T.d_times ["one", "other"] (spF K mg 2 f_times) := ok_times (P := P) (w := w) (base := base) T H_check_fraction H_multiplied
  have H_divided : FnG P w K mg base 4 T.a_divided T.d_divided ["one", "other"] (spF K mg 2 f_divided) := ok_divided (P := P) (w := w) (base := base) T H_reduced
  have H_over : FnG P w K mg base 12 T.a_over T.d_over ["one", "other"] (spF K mg 2 f_over) := ok_over (P := P) (w := w) (base := base) T H_init H_check_fraction H_built_anew H_divided
  have H_order : FnG P w K mg base 3 T.a_order T.d_order ["one", "other"] (spF K mg 2 f_order) := ok_order (P := P) (w := w) (base := base) T
  have H_compared : FnG P w K mg base 12 T.a_compared T.d_compared ["one", "other"] (spF K mg 2 f_compared) := ok_compared (P := P) (w := w) (base := base) T H_check_fraction H_order
  have H_total : FnG P w K mg base 5 T.a_total T.d_total ["fractions"] (spF K mg 1 f_total) := ok_total (P := P) (w := w) (base := base) T H_added
  have H_sum_of : FnG P w K mg base 12 T.a_sum_of T.d_sum_of ["fractions"] (spF K mg 1 f_sum_of) := ok_sum_of (P := P) (w := w) (base := base) T H_check_fraction H_total
  have H_fraction : FnG P w K mg base 4 T.a_fraction T.d_fraction ["above", "below"] (spF K mg 2 f_fraction) := ok_fraction (P := P) (w := w) (base := base) T H_init H_reduced
  have H_caught : FnG P w K mg base 13 T.a_caught T.d_caught ["_law_way", "_law_one", "_law_other", "_law_parts"] (spF K mg 4 f_caught) := ok_caught (P := P) (w := w) (base := base) T H_plus H_less H_times H_over H_compared H_sum_of H_fraction
  have H_refused : FnG P w K mg base 14 T.a_refused T.d_refused ["_law_way", "_law_one", "_law_other", "_law_parts", "_law_bad"] (spF K mg 5 f_refused) := ok_refused (P := P) (w := w) (base := base) T H_caught
  have H_is_from_zero : FnG P w K mg base 5 T.a_is_from_zero T.d_is_from_zero ["value"] (spF K mg 1 f_is_from_zero) := ok_is_from_zero (P := P) (w := w) (base := base) T H_is_fraction
  have H_is_share : FnG P w K mg base 6 T.a_is_share T.d_is_share ["value"] (spF K mg 1 f_is_share) := ok_is_share (P := P) (w := w) (base := base) T H_is_from_zero
  have H_refusals : FnG P w K mg base 15 T.a_refusals T.d_refusals ["_law_jug_here", "_law_one", "_law_other", "_law_parts"] (spF K mg 4 f_refusals) := ok_refusals (P := P) (w := w) (base := base) T H_odd H_is_fraction H_is_share H_drop H_refused H_caught
  have H_same : FnG P w K mg base 10 T.a_same T.d_same ["_law_found", "_law_due"] (spF K mg 2 (f_same 8)) := ok_same (P := P) (w := w) (base := base) T 8 (Nat.le_refl _)
  have H_told : FnG P w K mg base 11 T.a_told T.d_told ["_law_one"] (spF K mg 1 f_told) := ok_told (P := P) (w := w) (base := base) T H_is_fraction H_is_share H_same
  have H_quotient : FnG P w K mg base 4 T.a_quotient T.d_quotient ["_law_one", "_law_other"] (spF K mg 2 f_quotient) := ok_quotient (P := P) (w := w) (base := base) T H_low
  have H_worked : FnG P w K mg base 13 T.a_worked T.d_worked ["_law_one", "_law_other"] (spF K mg 2 f_worked) := ok_worked (P := P) (w := w) (base := base) T H_plus H_low H_same H_less H_times H_over H_quotient H_compared
  have H_made : FnG P w K mg base 14 T.a_made T.d_made ["_law_jug_here", "_law_one"] (spF K mg 2 f_made) := ok_made (P := P) (w := w) (base := base) T H_drop H_size H_fraction H_quotient H_same H_caught
  have H_sum : FnG P w K mg base 4 T.a_sum T.d_sum ["_law_parts"] (spF K mg 1 f_sum) := ok_sum (P := P) (w := w) (base := base) T H_low
  have H_right : FnG P w K mg base 16 T.a_right T.d_right ["_law_jug_here"] (spF K mg 1 f_right) := ok_right (P := P) (w := w) (base := base) T H_draw H_second H_drop H_told H_worked H_sum_of H_sum H_same H_made H_refusals
  have H_jug : FnG P w K mg base 3 T.a_jug T.d_jug ["_law_cell", "_law_k"] (spF K mg 2 f_jug) := ok_jug (P := P) (w := w) (base := base) T
  exact ok_law T H_jug H_right
theorem all_mk {fa : Addr} (T : Txt K mg) (hfa : mg "law" = some (.ref fa)) : ∃ fd : FuncData, (∀ (s : Shared) (u : Value), BindsTo s fd ⟨[u], []⟩ [("_law_script", u)]) ∧ ∀ base : Heap, K.In base → base.Ns mainGlobals mg → FnG P w K mg base 17 fa fd ["_law_script"] (spF K mg 1 f_law) := by
  have e := T.m_law.symm.trans hfa
  have e2 : T.a_law = fa := by
    cases e
    rfl
  subst e2
  refine ⟨T.d_law, fun s u => ?_, fun base _ _ => law_runs T⟩
  obtain ⟨_, _, _, _, _, _, _, _, _, q, _⟩ := T.F_law.ex
  rw [q]
  exact .of_eq rfl
def mkTxt {h : Heap} (X : K.In h) (G : h.Ns mainGlobals mg)
    {a_drop : Addr} {d_drop : FuncData} (m_drop : PySem.W.nsIn K mainGlobals "_law_drop" = some (some (.ref a_drop))) (F_drop : Fun K "_law_drop" "_law_drop" s_drop a_drop d_drop)
    {a_size : Addr} {d_size : FuncData} (m_size : PySem.W.nsIn K mainGlobals "_law_size" = some (some (.ref a_size))) (F_size : Fun K "_law_size" "_law_size" s_size a_size d_size)
    {a_low : Addr} {d_low : FuncData} (m_low : PySem.W.nsIn K mainGlobals "_law_low" = some (some (.ref a_low))) (F_low : Fun K "_law_low" "_law_low" s_low a_low d_low)
    {a_draw : Addr} {d_draw : FuncData} (m_draw : PySem.W.nsIn K mainGlobals "_law_draw" = some (some (.ref a_draw))) (F_draw : Fun K "_law_draw" "_law_draw" s_draw a_draw d_draw)
    {a_second : Addr} {d_second : FuncData} (m_second : PySem.W.nsIn K mainGlobals "_law_second" = some (some (.ref a_second))) (F_second : Fun K "_law_second" "_law_second" s_second a_second d_second)
    {a_odd : Addr} {d_odd : FuncData} (m_odd : PySem.W.nsIn K mainGlobals "_law_odd" = some (some (.ref a_odd))) (F_odd : Fun K "_law_odd" "_law_odd" s_odd a_odd d_odd)
    {a_is_integer : Addr} {d_is_integer : FuncData} (m_is_integer : PySem.W.nsIn K mainGlobals "is_integer" = some (some (.ref a_is_integer))) (F_is_integer : Fun K "is_integer" "is_integer" s_is_integer a_is_integer d_is_integer)
    {a_is_fraction : Addr} {d_is_fraction : FuncData} (m_is_fraction : PySem.W.nsIn K mainGlobals "is_fraction" = some (some (.ref a_is_fraction))) (F_is_fraction : Fun K "is_fraction" "is_fraction" s_is_fraction a_is_fraction d_is_fraction)
    {a_built_anew : Addr} {d_built_anew : FuncData} (m_built_anew : PySem.W.nsIn K mainGlobals "built_anew" = some (some (.ref a_built_anew))) (F_built_anew : Fun K "built_anew" "built_anew" s_built_anew a_built_anew d_built_anew)
    {a_check_fraction : Addr} {d_check_fraction : FuncData} (m_check_fraction : PySem.W.nsIn K mainGlobals "check_fraction" = some (some (.ref a_check_fraction))) (F_check_fraction : Fun K "check_fraction" "check_fraction" s_check_fraction a_check_fraction d_check_fraction)
    {a_reduced : Addr} {d_reduced : FuncData} (m_reduced : PySem.W.nsIn K mainGlobals "reduced" = some (some (.ref a_reduced))) (F_reduced : Fun K "reduced" "reduced" s_reduced a_reduced d_reduced)
    {a_added : Addr} {d_added : FuncData} (m_added : PySem.W.nsIn K mainGlobals "added" = some (some (.ref a_added))) (F_added : Fun K "added" "added" s_added a_added d_added)
    {a_plus : Addr} {d_plus : FuncData} (m_plus : PySem.W.nsIn K mainGlobals "plus" = some (some (.ref a_plus))) (F_plus : Fun K "plus" "plus" s_plus a_plus d_plus)
    {a_lessened : Addr} {d_lessened : FuncData} (m_lessened : PySem.W.nsIn K mainGlobals "lessened" = some (some (.ref a_lessened))) (F_lessened : Fun K "lessened" "lessened" s_lessened a_lessened d_lessened)
    {a_less : Addr} {d_less : FuncData} (m_less : PySem.W.nsIn K mainGlobals "less" = some (some (.ref a_less))) (F_less : Fun K "less" "less" s_less a_less d_less)
    {a_multiplied : Addr} {d_multiplied : FuncData} (m_multiplied : PySem.W.nsIn K mainGlobals "multiplied" = some (some (.ref a_multiplied))) (F_multiplied : Fun K "multiplied" "multiplied" s_multiplied a_multiplied d_multiplied)
    {a_times : Addr} {d_times : FuncData} (m_times : PySem.W.nsIn K mainGlobals "times" = some (some (.ref a_times))) (F_times : Fun K "times" "times" s_times a_times d_times)
    {a_divided : Addr} {d_divided : FuncData} (m_divided : PySem.W.nsIn K mainGlobals "divided" = some (some (.ref a_divided))) (F_divided : Fun K "divided" "divided" s_divided a_divided d_divided)
    {a_over : Addr} {d_over : FuncData} (m_over : PySem.W.nsIn K mainGlobals "over" = some (some (.ref a_over))) (F_over : Fun K "over" "over" s_over a_over d_over)
    {a_order : Addr} {d_order : FuncData} (m_order : PySem.W.nsIn K mainGlobals "order" = some (some (.ref a_order))) (F_order : Fun K "order" "order" s_order a_order d_order)
    {a_compared : Addr} {d_compared : FuncData} (m_compared : PySem.W.nsIn K mainGlobals "compared" = some (some (.ref a_compared))) (F_compared : Fun K "compared" "compared" s_compared a_compared d_compared)
    {a_total : Addr} {d_total : FuncData} (m_total : PySem.W.nsIn K mainGlobals "total" = some (some (.ref a_total))) (F_total : Fun K "total" "total" s_total a_total d_total)
    {a_sum_of : Addr} {d_sum_of : FuncData} (m_sum_of : PySem.W.nsIn K mainGlobals "sum_of" = some (some (.ref a_sum_of))) (F_sum_of : Fun K "sum_of" "sum_of" s_sum_of a_sum_of d_sum_of)
    {a_fraction : Addr} {d_fraction : FuncData} (m_fraction : PySem.W.nsIn K mainGlobals "fraction" = some (some (.ref a_fraction))) (F_fraction : Fun K "fraction" "fraction" s_fraction a_fraction d_fraction)
    {a_caught : Addr} {d_caught : FuncData} (m_caught : PySem.W.nsIn K mainGlobals "_law_caught" = some (some (.ref a_caught))) (F_caught : Fun K "_law_caught" "_law_caught" s_caught a_caught d_caught)
    {a_refused : Addr} {d_refused : FuncData} (m_refused : PySem.W.nsIn K mainGlobals "_law_refused" = some (some (.ref a_refused))) (F_refused : Fun K "_law_refused" "_law_refused" s_refused a_refused d_refused)
    {a_is_from_zero : Addr} {d_is_from_zero : FuncData} (m_is_from_zero : PySem.W.nsIn K mainGlobals "is_from_zero" = some (some (.ref a_is_from_zero))) (F_is_from_zero : Fun K "is_from_zero" "is_from_zero" s_is_from_zero a_is_from_zero d_is_from_zero)
    {a_is_share : Addr} {d_is_share : FuncData} (m_is_share : PySem.W.nsIn K mainGlobals "is_share" = some (some (.ref a_is_share))) (F_is_share : Fun K "is_share" "is_share" s_is_share a_is_share d_is_share)
    {a_refusals : Addr} {d_refusals : FuncData} (m_refusals : PySem.W.nsIn K mainGlobals "_law_refusals" = some (some (.ref a_refusals))) (F_refusals : Fun K "_law_refusals" "_law_refusals" s_refusals a_refusals d_refusals)
    {a_same : Addr} {d_same : FuncData} (m_same : PySem.W.nsIn K mainGlobals "_law_same" = some (some (.ref a_same))) (F_same : Fun K "_law_same" "_law_same" s_same a_same d_same)
    {a_told : Addr} {d_told : FuncData} (m_told : PySem.W.nsIn K mainGlobals "_law_told" = some (some (.ref a_told))) (F_told : Fun K "_law_told" "_law_told" s_told a_told d_told)
    {a_quotient : Addr} {d_quotient : FuncData} (m_quotient : PySem.W.nsIn K mainGlobals "_law_quotient" = some (some (.ref a_quotient))) (F_quotient : Fun K "_law_quotient" "_law_quotient" s_quotient a_quotient d_quotient)
    {a_worked : Addr} {d_worked : FuncData} (m_worked : PySem.W.nsIn K mainGlobals "_law_worked" = some (some (.ref a_worked))) (F_worked : Fun K "_law_worked" "_law_worked" s_worked a_worked d_worked)
    {a_made : Addr} {d_made : FuncData} (m_made : PySem.W.nsIn K mainGlobals "_law_made" = some (some (.ref a_made))) (F_made : Fun K "_law_made" "_law_made" s_made a_made d_made)
    {a_sum : Addr} {d_sum : FuncData} (m_sum : PySem.W.nsIn K mainGlobals "_law_sum" = some (some (.ref a_sum))) (F_sum : Fun K "_law_sum" "_law_sum" s_sum a_sum d_sum)
    {a_right : Addr} {d_right : FuncData} (m_right : PySem.W.nsIn K mainGlobals "_law_right" = some (some (.ref a_right))) (F_right : Fun K "_law_right" "_law_right" s_right a_right d_right)
    {a_jug : Addr} {d_jug : FuncData} (m_jug : PySem.W.nsIn K mainGlobals "_law_jug" = some (some (.ref a_jug))) (F_jug : Fun K "_law_jug" "_law_jug" s_jug a_jug d_jug)
    {a_law : Addr} {d_law : FuncData} (m_law : PySem.W.nsIn K mainGlobals "law" = some (some (.ref a_law))) (F_law : Fun K "law" "law" s_law a_law d_law)
    {a_CaskError : Addr} (c_CaskError : PySem.W.nsIn K mainGlobals "CaskError" = some (some (.ref a_CaskError)))
    {a_InvalidFraction : Addr} (c_InvalidFraction : PySem.W.nsIn K mainGlobals "InvalidFraction" = some (some (.ref a_InvalidFraction)))
    {a_InvalidNumber : Addr} (c_InvalidNumber : PySem.W.nsIn K mainGlobals "InvalidNumber" = some (some (.ref a_InvalidNumber)))
    {a_init : Addr} {d_init : FuncData}
    (o_InvalidNumber : OexC K a_InvalidNumber) (j_InvalidNumber : PySem.W.findIn K (.ref a_InvalidNumber) "__init__" = some (some (.ref a_init))) (y_InvalidNumber : ExcC K a_InvalidNumber) (v_InvalidNumber : PySem.W.findIn K (.ref a_InvalidNumber) "value" = some none)
    (o_InvalidFraction : OexC K a_InvalidFraction) (j_InvalidFraction : PySem.W.findIn K (.ref a_InvalidFraction) "__init__" = some (some (.ref a_init))) (y_InvalidFraction : ExcC K a_InvalidFraction) (v_InvalidFraction : PySem.W.findIn K (.ref a_InvalidFraction) "value" = some none)
    (F_init : Fun K "__init__" "CaskError.__init__" s_init a_init d_init) (t_init : PySem.W.typeIn K (.ref a_init) = some (.type "function")) (n_ValueError : PySem.W.nsIn K mainGlobals "ValueError" = some none) (v_ValueError : PySem.W.findCls K (.type "ValueError") (.type "type") "__init__" = some (.val (.builtin "ValueError.__init__")))
    (i_InvalidNumber_InvalidFraction : PySem.W.kitOne K (.ref a_InvalidNumber) (.ref a_InvalidFraction) = some false)
    (i_InvalidFraction_InvalidFraction : PySem.W.kitOne K (.ref a_InvalidFraction) (.ref a_InvalidFraction) = some true)
    (i_InvalidNumber_InvalidNumber : PySem.W.kitOne K (.ref a_InvalidNumber) (.ref a_InvalidNumber) = some true)
    (i_InvalidFraction_InvalidNumber : PySem.W.kitOne K (.ref a_InvalidFraction) (.ref a_InvalidNumber) = some false)
    (x_InvalidNumber_CaskError : PySem.W.exmOne K (.ref a_InvalidNumber) (.ref a_CaskError) = some true)
    (x_InvalidFraction_CaskError : PySem.W.exmOne K (.ref a_InvalidFraction) (.ref a_CaskError) = some true)
    {a_ZERO : Addr} (c_ZERO : PySem.W.nsIn K mainGlobals "ZERO" = some (some (.ref a_ZERO))) {o_ZERO : Option Addr} {t_ZERO : Array Value} {q_ZERO : Nat} {w_ZERO : Array (Option Value)} (l_ZERO : K.lookup a_ZERO = some ⟨.type "tuple", o_ZERO, .seq t_ZERO q_ZERO, w_ZERO⟩) (r_ZERO : Vals [V.int 0, V.int 1] t_ZERO.toList) (y_ZERO : t_ZERO.size ≤ sizeLine)
    (n_gcd : PySem.W.nsIn K mainGlobals "gcd" = some (some (.builtin "math.gcd")))
    (n_abs : PySem.W.nsIn K mainGlobals "abs" = some none)
    (n_all : PySem.W.nsIn K mainGlobals "all" = some none)
    (n_bool : PySem.W.nsIn K mainGlobals "bool" = some none)
    (n_int : PySem.W.nsIn K mainGlobals "int" = some none)
    (n_isinstance : PySem.W.nsIn K mainGlobals "isinstance" = some none)
    (n_len : PySem.W.nsIn K mainGlobals "len" = some none)
    (n_list : PySem.W.nsIn K mainGlobals "list" = some none)
    (n_max : PySem.W.nsIn K mainGlobals "max" = some none)
    (n_range : PySem.W.nsIn K mainGlobals "range" = some none)
    (n_repr : PySem.W.nsIn K mainGlobals "repr" = some none)
    (n_tuple : PySem.W.nsIn K mainGlobals "tuple" = some none) : Txt K mg :=
  { a_drop := a_drop, d_drop := d_drop, m_drop := PySem.W.mg_of X G m_drop, F_drop := F_drop, k_drop := F_drop.2, b_drop := F_drop.binds fun _ _ _ _ _ _ us hl => match us, hl with | [_, _], _ => rfl,
    a_size := a_size, d_size := d_size, m_size := PySem.W.mg_of X G m_size, F_size := F_size, k_size := F_size.2, b_size := F_size.binds fun _ _ _ _ _ _ us hl => match us, hl with | [_], _ => rfl,
    a_low := a_low, d_low := d_low, m_low := PySem.W.mg_of X G m_low, F_low := F_low, k_low := F_low.2, b_low := F_low.binds fun _ _ _ _ _ _ us hl => match us, hl with | [_, _], _ => rfl,
    a_draw := a_draw, d_draw := d_draw, m_draw := PySem.W.mg_of X G m_draw, F_draw := F_draw, k_draw := F_draw.2, b_draw := F_draw.binds fun _ _ _ _ _ _ us hl => match us, hl with | [_], _ => rfl,
    a_second := a_second, d_second := d_second, m_second := PySem.W.mg_of X G m_second, F_second := F_second, k_second := F_second.2, b_second := F_second.binds fun _ _ _ _ _ _ us hl => match us, hl with | [_, _], _ => rfl,
    a_odd := a_odd, d_odd := d_odd, m_odd := PySem.W.mg_of X G m_odd, F_odd := F_odd, k_odd := F_odd.2, b_odd := F_odd.binds fun _ _ _ _ _ _ us hl => match us, hl with | [_, _], _ => rfl,
    a_is_integer := a_is_integer, d_is_integer := d_is_integer, m_is_integer := PySem.W.mg_of X G m_is_integer, F_is_integer := F_is_integer, k_is_integer := F_is_integer.2, b_is_integer := F_is_integer.binds fun _ _ _ _ _ _ us hl => match us, hl with | [_], _ => rfl,
    a_is_fraction := a_is_fraction, d_is_fraction := d_is_fraction, m_is_fraction := PySem.W.mg_of X G m_is_fraction, F_is_fraction := F_is_fraction, k_is_fraction := F_is_fraction.2, b_is_fraction := F_is_fraction.binds fun _ _ _ _ _ _ us hl => match us, hl with | [_], _ => rfl,
    a_built_anew := a_built_anew, d_built_anew := d_built_anew, m_built_anew := PySem.W.mg_of X G m_built_anew, F_built_anew := F_built_anew, k_built_anew := F_built_anew.2, b_built_anew := F_built_anew.binds fun _ _ _ _ _ _ us hl => match us, hl with | [_], _ => rfl,
    a_check_fraction := a_check_fraction, d_check_fraction := d_check_fraction, m_check_fraction := PySem.W.mg_of X G m_check_fraction, F_check_fraction := F_check_fraction, k_check_fraction := F_check_fraction.2, b_check_fraction := F_check_fraction.binds fun _ _ _ _ _ _ us hl => match us, hl with | [_], _ => rfl,
    a_reduced := a_reduced, d_reduced := d_reduced, m_reduced := PySem.W.mg_of X G m_reduced, F_reduced := F_reduced, k_reduced := F_reduced.2, b_reduced := F_reduced.binds fun _ _ _ _ _ _ us hl => match us, hl with | [_, _], _ => rfl,
    a_added := a_added, d_added := d_added, m_added := PySem.W.mg_of X G m_added, F_added := F_added, k_added := F_added.2, b_added := F_added.binds fun _ _ _ _ _ _ us hl => match us, hl with | [_, _], _ => rfl,
    a_plus := a_plus, d_plus := d_plus, m_plus := PySem.W.mg_of X G m_plus, F_plus := F_plus, k_plus := F_plus.2, b_plus := F_plus.binds fun _ _ _ _ _ _ us hl => match us, hl with | [_, _], _ => rfl,
    a_lessened := a_lessened, d_lessened := d_lessened, m_lessened := PySem.W.mg_of X G m_lessened, F_lessened := F_lessened, k_lessened := F_lessened.2, b_lessened := F_lessened.binds fun _ _ _ _ _ _ us hl => match us, hl with | [_, _], _ => rfl,
    a_less := a_less, d_less := d_less, m_less := PySem.W.mg_of X G m_less, F_less := F_less, k_less := F_less.2, b_less := F_less.binds fun _ _ _ _ _ _ us hl => match us, hl with | [_, _], _ => rfl,
    a_multiplied := a_multiplied, d_multiplied := d_multiplied, m_multiplied := PySem.W.mg_of X G m_multiplied, F_multiplied := F_multiplied, k_multiplied := F_multiplied.2, b_multiplied := F_multiplied.binds fun _ _ _ _ _ _ us hl => match us, hl with | [_, _], _ => rfl,
    a_times := a_times, d_times := d_times, m_times := PySem.W.mg_of X G m_times, F_times := F_times, k_times := F_times.2, b_times := F_times.binds fun _ _ _ _ _ _ us hl => match us, hl with | [_, _], _ => rfl,
    a_divided := a_divided, d_divided := d_divided, m_divided := PySem.W.mg_of X G m_divided, F_divided := F_divided, k_divided := F_divided.2, b_divided := F_divided.binds fun _ _ _ _ _ _ us hl => match us, hl with | [_, _], _ => rfl,
    a_over := a_over, d_over := d_over, m_over := PySem.W.mg_of X G m_over, F_over := F_over, k_over := F_over.2, b_over := F_over.binds fun _ _ _ _ _ _ us hl => match us, hl with | [_, _], _ => rfl,
    a_order := a_order, d_order := d_order, m_order := PySem.W.mg_of X G m_order, F_order := F_order, k_order := F_order.2, b_order := F_order.binds fun _ _ _ _ _ _ us hl => match us, hl with | [_, _], _ => rfl,
    a_compared := a_compared, d_compared := d_compared, m_compared := PySem.W.mg_of X G m_compared, F_compared := F_compared, k_compared := F_compared.2, b_compared := F_compared.binds fun _ _ _ _ _ _ us hl => match us, hl with | [_, _], _ => rfl,
    a_total := a_total, d_total := d_total, m_total := PySem.W.mg_of X G m_total, F_total := F_total, k_total := F_total.2, b_total := F_total.binds fun _ _ _ _ _ _ us hl => match us, hl with | [_], _ => rfl,
    a_sum_of := a_sum_of, d_sum_of := d_sum_of, m_sum_of := PySem.W.mg_of X G m_sum_of, F_sum_of := F_sum_of, k_sum_of := F_sum_of.2, b_sum_of := F_sum_of.binds fun _ _ _ _ _ _ us hl => match us, hl with | [_], _ => rfl,
    a_fraction := a_fraction, d_fraction := d_fraction, m_fraction := PySem.W.mg_of X G m_fraction, F_fraction := F_fraction, k_fraction := F_fraction.2, b_fraction := F_fraction.binds fun _ _ _ _ _ _ us hl => match us, hl with | [_, _], _ => rfl,
    a_caught := a_caught, d_caught := d_caught, m_caught := PySem.W.mg_of X G m_caught, F_caught := F_caught, k_caught := F_caught.2, b_caught := F_caught.binds fun _ _ _ _ _ _ us hl => match us, hl with | [_, _, _, _], _ => rfl,
    a_refused := a_refused, d_refused := d_refused, m_refused := PySem.W.mg_of X G m_refused, F_refused := F_refused, k_refused := F_refused.2, b_refused := F_refused.binds fun _ _ _ _ _ _ us hl => match us, hl with | [_, _, _, _, _], _ => rfl,
    a_is_from_zero := a_is_from_zero, d_is_from_zero := d_is_from_zero, m_is_from_zero := PySem.W.mg_of X G m_is_from_zero, F_is_from_zero := F_is_from_zero, k_is_from_zero := F_is_from_zero.2, b_is_from_zero := F_is_from_zero.binds fun _ _ _ _ _ _ us hl => match us, hl with | [_], _ => rfl,
    a_is_share := a_is_share, d_is_share := d_is_share, m_is_share := PySem.W.mg_of X G m_is_share, F_is_share := F_is_share, k_is_share := F_is_share.2, b_is_share := F_is_share.binds fun _ _ _ _ _ _ us hl => match us, hl with | [_], _ => rfl,
    a_refusals := a_refusals, d_refusals := d_refusals, m_refusals := PySem.W.mg_of X G m_refusals, F_refusals := F_refusals, k_refusals := F_refusals.2, b_refusals := F_refusals.binds fun _ _ _ _ _ _ us hl => match us, hl with | [_, _, _, _], _ => rfl,
    a_same := a_same, d_same := d_same, m_same := PySem.W.mg_of X G m_same, F_same := F_same, k_same := F_same.2, b_same := F_same.binds fun _ _ _ _ _ _ us hl => match us, hl with | [_, _], _ => rfl,
    a_told := a_told, d_told := d_told, m_told := PySem.W.mg_of X G m_told, F_told := F_told, k_told := F_told.2, b_told := F_told.binds fun _ _ _ _ _ _ us hl => match us, hl with | [_], _ => rfl,
    a_quotient := a_quotient, d_quotient := d_quotient, m_quotient := PySem.W.mg_of X G m_quotient, F_quotient := F_quotient, k_quotient := F_quotient.2, b_quotient := F_quotient.binds fun _ _ _ _ _ _ us hl => match us, hl with | [_, _], _ => rfl,
    a_worked := a_worked, d_worked := d_worked, m_worked := PySem.W.mg_of X G m_worked, F_worked := F_worked, k_worked := F_worked.2, b_worked := F_worked.binds fun _ _ _ _ _ _ us hl => match us, hl with | [_, _], _ => rfl,
    a_made := a_made, d_made := d_made, m_made := PySem.W.mg_of X G m_made, F_made := F_made, k_made := F_made.2, b_made := F_made.binds fun _ _ _ _ _ _ us hl => match us, hl with | [_, _], _ => rfl,
    a_sum := a_sum, d_sum := d_sum, m_sum := PySem.W.mg_of X G m_sum, F_sum := F_sum, k_sum := F_sum.2, b_sum := F_sum.binds fun _ _ _ _ _ _ us hl => match us, hl with | [_], _ => rfl,
    a_right := a_right, d_right := d_right, m_right := PySem.W.mg_of X G m_right, F_right := F_right, k_right := F_right.2, b_right := F_right.binds fun _ _ _ _ _ _ us hl => match us, hl with | [_], _ => rfl,
    a_jug := a_jug, d_jug := d_jug, m_jug := PySem.W.mg_of X G m_jug, F_jug := F_jug, k_jug := F_jug.2, b_jug := F_jug.binds fun _ _ _ _ _ _ us hl => match us, hl with | [_, _], _ => rfl,
    a_law := a_law, d_law := d_law, m_law := PySem.W.mg_of X G m_law, F_law := F_law, k_law := F_law.2, b_law := F_law.binds fun _ _ _ _ _ _ us hl => match us, hl with | [_], _ => rfl,
    a_CaskError := a_CaskError, c_CaskError := PySem.W.mg_of X G c_CaskError,
    a_InvalidFraction := a_InvalidFraction, c_InvalidFraction := PySem.W.mg_of X G c_InvalidFraction,
    a_InvalidNumber := a_InvalidNumber, c_InvalidNumber := PySem.W.mg_of X G c_InvalidNumber,
    a_init := a_init, d_init := d_init, F_init := F_init, t_init := t_init, b_init := F_init.binds fun _ _ _ _ _ _ us hl => match us, hl with | [_, _], _ => rfl, n_ValueError := PySem.W.mg_none_of X G n_ValueError, v_ValueError := v_ValueError,
    e_InvalidNumber := ⟨PySem.W.mg_of X G c_InvalidNumber, o_InvalidNumber, j_InvalidNumber, y_InvalidNumber, v_InvalidNumber⟩,
    e_InvalidFraction := ⟨PySem.W.mg_of X G c_InvalidFraction, o_InvalidFraction, j_InvalidFraction, y_InvalidFraction, v_InvalidFraction⟩,
    i_InvalidFraction := fun c C hc hm => (by
      simp only [errNames, List.mem_cons, List.not_mem_nil, or_false] at hc
      rcases hc with rfl | rfl
      · have e := (PySem.W.mg_of X G c_InvalidNumber).symm.trans hm
        cases e
        exact i_InvalidNumber_InvalidFraction.trans (by decide +kernel)
      · have e := (PySem.W.mg_of X G c_InvalidFraction).symm.trans hm
        cases e
        exact i_InvalidFraction_InvalidFraction.trans (by decide +kernel)),
    i_InvalidNumber := fun c C hc hm => (by
      simp only [errNames, List.mem_cons, List.not_mem_nil, or_false] at hc
      rcases hc with rfl | rfl
      · have e := (PySem.W.mg_of X G c_InvalidNumber).symm.trans hm
        cases e
        exact i_InvalidNumber_InvalidNumber.trans (by decide +kernel)
      · have e := (PySem.W.mg_of X G c_InvalidFraction).symm.trans hm
        cases e
        exact i_InvalidFraction_InvalidNumber.trans (by decide +kernel)),
    x_CaskError := fun e C b hm hb => (by
      unfold cat_CaskError at hb
      split at hb
      · rename_i hc
        simp only [errNames, List.mem_cons, List.not_mem_nil, or_false] at hc
        rcases hc with rfl | rfl
        · have e := (PySem.W.mg_of X G c_InvalidNumber).symm.trans hm
          cases e
          exact x_InvalidNumber_CaskError.trans hb
        · have e := (PySem.W.mg_of X G c_InvalidFraction).symm.trans hm
          cases e
          exact x_InvalidFraction_CaskError.trans hb
      · cases hb),
    a_ZERO := a_ZERO, c_ZERO := PySem.W.mg_of X G c_ZERO, z_ZERO := fun _ => sqT_obj l_ZERO r_ZERO y_ZERO,
    n_gcd := PySem.W.mg_of X G n_gcd,
    n_abs := PySem.W.mg_none_of X G n_abs,
    n_all := PySem.W.mg_none_of X G n_all,
    n_bool := PySem.W.mg_none_of X G n_bool,
    n_int := PySem.W.mg_none_of X G n_int,
    n_isinstance := PySem.W.mg_none_of X G n_isinstance,
    n_len := PySem.W.mg_none_of X G n_len,
    n_list := PySem.W.mg_none_of X G n_list,
    n_max := PySem.W.mg_none_of X G n_max,
    n_range := PySem.W.mg_none_of X G n_range,
    n_repr := PySem.W.mg_none_of X G n_repr,
    n_tuple := PySem.W.mg_none_of X G n_tuple }
end MI.K01

set_option Elab.async false
set_option linter.all false
set_option maxRecDepth 100000
set_option maxHeartbeats 4000000
namespace MI
open PySem PySem.Spec PyProof.Rows L2
/-! ### plain evaluation -/
section
variable {α β : Type} {a : α} {d e x y : D} {S S1 S2 : Store} {ρ ρ1 : Sl} {c : Str}
@[simp] theorem bind_ok {k : α → Store → Res β} : (Res.ok a S).bind k = k a S := id rfl
@[simp] theorem bind_exc {k : α → Store → Res β} : (Res.exc c d S : Res α).bind k = .exc c d S := id rfl
@[simp] theorem bindR_ok {k : α → Store → SR} : SR.bindR (.ok a S) ρ k = k a S := id rfl
@[simp] theorem bindR_exc {k : α → Store → SR} : SR.bindR (.exc c d S : Res α) ρ k = .exc c d ρ S := id rfl
@[simp] theorem then_next {k : Sl → Store → SR} : (SR.next ρ S).then k = k ρ S := id rfl
@[simp] theorem then_ret {k : Sl → Store → SR} : (SR.ret d S).then k = .ret d S := id rfl
@[simp] theorem then_exc {k : Sl → Store → SR} : (SR.exc c d ρ S).then k = .exc c d ρ S := id rfl
@[simp] theorem then_brk {k : Sl → Store → SR} : (SR.brk ρ S).then k = .brk ρ S := id rfl
@[simp] theorem v_0 {r : Sl} : mV 0 (some d :: r) S = .ok d S := id rfl
@[simp] theorem v_1 {o r} : mV 1 (o :: some d :: r) S = .ok d S := id rfl
@[simp] theorem v_2 {o p r} : mV 2 (o :: p :: some d :: r) S = .ok d S := id rfl
@[simp] theorem v_3 {o p q r} : mV 3 (o :: p :: q :: some d :: r) S = .ok d S := id rfl
@[simp] theorem v_4 {o p q t r} : mV 4 (o :: p :: q :: t :: some d :: r) S = .ok d S := id rfl
@[simp] theorem v_5 {o p q t u r} : mV 5 (o :: p :: q :: t :: u :: some d :: r) S = .ok d S := id rfl
@[simp] theorem v_6 {o p q t u v r} : mV 6 (o :: p :: q :: t :: u :: v :: some d :: r) S = .ok d S := id rfl
@[simp] theorem v_7 {o p q t u v w r} : mV 7 (o :: p :: q :: t :: u :: v :: w :: some d :: r) S = .ok d S := id rfl
@[simp] theorem v_8 {o p q t u v w z r} : mV 8 (o :: p :: q :: t :: u :: v :: w :: z :: some d :: r) S = .ok d S := id rfl
@[simp] theorem ev_C : mC d ρ S = .ok d S := id rfl
@[simp] theorem ev_Op {g : D → D → Store → Res D} {a b : M D} : mOp g a b ρ S = (a ρ S).bind fun x S1 => (b ρ S1).bind fun y S2 => g x y S2 := id rfl
@[simp] theorem ev_Un {g : D → Store → Res D} {a : M D} : mUn g a ρ S = (a ρ S).bind g := id rfl
@[simp] theorem ev_Nil : mNil ρ S = .ok [] S := id rfl
@[simp] theorem ev_Cons {a : M D} {r : M (List D)} : mCons a r ρ S = (a ρ S).bind fun x S1 => (r ρ S1).bind fun xs S2 => .ok (x :: xs) S2 := id rfl
@[simp] theorem ev_App {g : List D → Store → Res D} {m : M (List D)} : mApp g m ρ S = (m ρ S).bind g := id rfl
@[simp] theorem ev_Tru {m : M D} : mTru m ρ S = (m ρ S).bind fun d S1 => match gTru d S1 with
  | some b => .ok b S1
  | none => .no := id rfl
@[simp] theorem ev_Tst {m : M D} : mTst m ρ S = (m ρ S).bind fun d S1 => match isB d with
  | some b => .ok b S1
  | none => .no := id rfl
@[simp] theorem ev_And {a b : M Bool} : mAnd a b ρ S = (a ρ S).bind fun c S1 => if c = true then b ρ S1 else .ok false S1 := id rfl
@[simp] theorem ev_Or {a b : M Bool} : mOr a b ρ S = (a ρ S).bind fun c S1 => if c = true then .ok true S1 else b ρ S1 := id rfl
@[simp] theorem ev_Not {a : M Bool} : mNot a ρ S = (a ρ S).bind fun c S1 => .ok (!c) S1 := id rfl
@[simp] theorem ev_AndV {a b : M D} : mAndV a b ρ S = (a ρ S).bind fun x S1 => match isB x with
  | some c => if c = true then b ρ S1 else .ok (.bl false) S1
  | none => .no := id rfl
@[simp] theorem ev_OrV {a b : M D} : mOrV a b ρ S = (a ρ S).bind fun x S1 => match isB x with
  | some c => if c = true then .ok (.bl true) S1 else b ρ S1
  | none => .no := id rfl
@[simp] theorem ev_NotV {a : M D} : mNotV a ρ S = (a ρ S).bind fun x S1 => match isB x with
  | some c => .ok (.bl (!c)) S1
  | none => .no := id rfl
@[simp] theorem ev_If {c : M Bool} {a b : M α} : mIf c a b ρ S = (c ρ S).bind fun c S1 => if c = true then a ρ S1 else b ρ S1 := id rfl
@[simp] theorem tru_bl {b : Bool} : gTru (.bl b) S = some b := id rfl
@[simp] theorem isB_bl {b : Bool} : isB (.bl b) = some b := id rfl
@[simp] theorem ev_Seq {a b : MS} : sSeq a b ρ S = (a ρ S).then b := id rfl
@[simp] theorem ev_sIf {c : M Bool} {a b : MS} : sIf c a b ρ S = SR.bindR (c ρ S) ρ fun c S1 => if c = true then a ρ S1 else b ρ S1 := id rfl
@[simp] theorem ev_Ret {m : M D} : sRet m ρ S = SR.bindR (m ρ S) ρ fun d S1 => .ret d S1 := id rfl
@[simp] theorem ev_Expr {m : M D} : sExpr m ρ S = SR.bindR (m ρ S) ρ fun _ S1 => .next ρ S1 := id rfl
@[simp] theorem ev_Asg {i : Nat} {m : M D} : sAsg (.nm i) m ρ S = SR.bindR (m ρ S) ρ fun d S1 => .next (ρ.set i (some d)) S1 := id rfl
@[simp] theorem ev_Par {i j : Nat} {a b : M D} : sPar i j a b ρ S = SR.bindR (a ρ S) ρ fun x S1 => SR.bindR (b ρ S1) ρ fun y S2 => .next ((ρ.set i (some x)).set j (some y)) S2 := id rfl
@[simp] theorem ev_Pass : sPass ρ S = .next ρ S := id rfl
@[simp] theorem ev_Brk : sBrk ρ S = .brk ρ S := id rfl
@[simp] theorem ev_Raise {m : M D} : sRaise c m ρ S = SR.bindR (m ρ S) ρ fun d S1 => .exc c d ρ S1 := id rfl
@[simp] theorem ev_Set {o i e : M D} : sSet o i e ρ S = SR.bindR (e ρ S) ρ fun d S1 => SR.bindR (o ρ S1) ρ fun x S2 => SR.bindR (i ρ S2) ρ fun y S3 => match gSet x y d S3 with
  | .ok _ S4 => .next ρ S4
  | _ => .no := id rfl
/-! numbers -/
@[simp] theorem g_add {i j : Int} : gAdd (.int i) (.int j) S = .ok (.int (i + j)) S := id rfl
@[simp] theorem g_sub {i j : Int} : gSub (.int i) (.int j) S = .ok (.int (i - j)) S := id rfl
@[simp] theorem g_lt {i j : Int} : gLt (.int i) (.int j) S = .ok (.bl (decide (i < j))) S := id rfl
@[simp] theorem g_le {i j : Int} : gLe (.int i) (.int j) S = .ok (.bl (decide (i ≤ j))) S := id rfl
@[simp] theorem g_gt {i j : Int} : gGt (.int i) (.int j) S = .ok (.bl (decide (j < i))) S := id rfl
@[simp] theorem g_ge {i j : Int} : gGe (.int i) (.int j) S = .ok (.bl (decide (j ≤ i))) S := id rfl
@[simp] theorem g_neg {i : Int} : gNeg (.int i) S = .ok (.int (-i)) S := id rfl
theorem g_mul {i j : Int} (h : mulOk i j = true) : gMul (.int i) (.int j) S = .ok (.int (i * j)) S := if_pos h
theorem g_div {i j : Int} (h : cDiv i j = true) : gDiv (.int i) (.int j) S = .ok (.int (i.fdiv j)) S := if_pos h
theorem g_mod {i j : Int} (h : j ≠ 0) : gMod (.int i) (.int j) S = .ok (.int (i.fmod j)) S := if_pos (by simpa [cMod] using h)
theorem g_pow {i j : Int} (h : cPow i j = true) : gPow (.int i) (.int j) S = .ok (.int (i ^ j.toNat)) S := if_pos h
@[simp] theorem g_eqI {i j : Int} : gEq (.int i) (.int j) S = .ok (.bl (decide (i = j))) S := by
  show (if SeqAt.shaped (.int i) = true ∧ SeqAt.shaped (.int j) = true then Res.ok (D.bl (PyData.eqv (.int i) (.int j))) S else .no) = _
  rw [if_pos ⟨by simp [SeqAt.shaped, PyData.canLay0, PyData.depth], by simp [SeqAt.shaped, PyData.canLay0, PyData.depth]⟩]
  congr 2
@[simp] theorem g_neI {i j : Int} : gNe (.int i) (.int j) S = .ok (.bl (!decide (i = j))) S := by
  show (if SeqAt.shaped (.int i) = true ∧ SeqAt.shaped (.int j) = true then Res.ok (D.bl (!PyData.eqv (.int i) (.int j))) S else .no) = _
  rw [if_pos ⟨by simp [SeqAt.shaped, PyData.canLay0, PyData.depth], by simp [SeqAt.shaped, PyData.canLay0, PyData.depth]⟩]
  congr 2
@[simp] theorem g_int {i : Int} : gInt [.int i] S = .ok (.int i) S := id rfl
@[simp] theorem g_intB {b : Bool} : gInt [.bl b] S = .ok (.int (if b then 1 else 0)) S := id rfl
@[simp] theorem g_abs {i : Int} : gAbs [.int i] S = .ok (.int i.natAbs) S := by
  show Res.ok (D.int (if i < 0 then -i else i)) S = _
  split <;> congr 2 <;> omega
@[simp] theorem g_max2 {i j : Int} : gMax2 [.int i, .int j] S = .ok (.int (if j > i then j else i)) S := id rfl
@[simp] theorem g_gcd {a b : Int} : gGcd [.int a, .int b] S = .ok (.int ((Nat.gcd a.natAbs b.natAbs : Nat) : Int)) S := id rfl
theorem g_tup {xs : List D} (h : xs.length ≤ 16777216) : gTup xs S = .ok (.tup xs) S := if_pos h
theorem g_lst {xs : List D} (h : xs.length ≤ 16777216) : gLst xs S = .ok (.ref S.length) (S ++ [.lst xs]) := if_pos h
theorem ix_t {xs : List D} {i : Int} {d : D} (h : L2.atI xs i = some d) : gIx (.tup xs) (.int i) S = .ok d S := by
  show (match L2.atI xs i with
    | some d => Res.ok d S
    | none => .no) = _
  rw [h]
@[simp] theorem ix_t0 {x : D} {xs : List D} : gIx (.tup (x :: xs)) (.int 0) S = .ok x S := ix_t (by first | exact atI_nat (j := 0) rfl | exact atI_nat (j := 1) rfl)
@[simp] theorem ix_t1 {x y : D} {xs : List D} : gIx (.tup (x :: y :: xs)) (.int 1) S = .ok y S := ix_t (by first | exact atI_nat (j := 0) rfl | exact atI_nat (j := 1) rfl)
theorem ix_r {a : Nat} {xs : List D} {i : Int} {d : D} (hs : S[a]? = some (.lst xs)) (h : L2.atI xs i = some d) : gIx (.ref a) (.int i) S = .ok d S := by
  show (match (match S[a]? with
    | some (.lst xs) => some xs
    | _ => none) with
    | some ds => (match L2.atI ds i with
      | some d => Res.ok d S
      | none => .no)
    | none => .no) = _
  rw [hs]
  show (match L2.atI xs i with
      | some d => Res.ok d S
      | none => .no) = _
  rw [h]
theorem set_r {a : Nat} {xs : List D} {k : Nat} {d : D} (hs : S[a]? = some (.lst xs)) (hk : k < xs.length) : gSet (.ref a) (.int k) d S = .ok () (S.set a (.lst (xs.set k d))) := by
  unfold gSet
  simp only [hs]
  have e : ixN xs.length (k : Int) = some k := by
    unfold ixN
    simp [hk]
  rw [e]
/-! calls' ends -/
theorem keeps_app {n : Nat} : ∀ {S : Store} {T : Store}, keeps n S (S ++ T) = true
  | [], _ => rfl
  | c :: S, T => by simp only [List.cons_append, keeps, Cell.beq_refl, Bool.true_or, Bool.true_and]; exact keeps_app
theorem keeps_set {n : Nat} {c : Cell} (h : cellBelow n c = true) : ∀ {S : Store} {T : Store} {i : Nat}, keeps n S (S.set i c ++ T) = true
  | [], _, _ => rfl
  | c0 :: S, T, 0 => by simp only [List.set_cons_zero, List.cons_append, keeps, h, Bool.or_true, Bool.true_and]; exact keeps_app
  | c0 :: S, T, i + 1 => by simp only [List.set_cons_succ, List.cons_append, keeps, Cell.beq_refl, Bool.true_or, Bool.true_and]; exact keeps_set h
theorem ret_keep (k : keeps S.length S S1 = true) (b : below S.length d = true) : retOf S d S1 = .ok d (S1.take S.length) := by
  unfold retOf
  rw [if_pos k, if_pos b]
theorem ret_app {T : Store} (b : below S.length d = true) : retOf S d (S ++ T) = .ok d S := by
  rw [ret_keep keeps_app b, List.take_left]
theorem ret_same : retOf S d S = .ok d S := by
  by_cases b : below S.length d = true
  · have := ret_app (T := []) b
    rwa [List.append_nil] at this
  · unfold retOf
    rw [if_neg b]
    split
    · split
      · split
        · rename_i i _ _ h
          have hi := (List.getElem?_eq_some_iff.mp h).1
          exact absurd (by simpa [below] using hi) b
        · rfl
      · rfl
    · rfl
theorem ret_set {T : Store} {i : Nat} {c : Cell} (h : cellBelow S.length c = true) (b : below S.length d = true) : retOf S d (S.set i c ++ T) = .ok d (S.set i c) := by
  rw [ret_keep (keeps_set h) b]
  congr 1
  rw [List.take_append_of_le_length (by simp), List.take_of_length_le (by simp)]
theorem fn_ret {n : Nat} {b : MS} {ds : List D} {r : Res D} (h : b (ds.map some ++ List.replicate (n - ds.length) none) S = .ret d S1) (e : retOf S d S1 = r) : fnOf n b ds S = r := by
  unfold fnOf
  rw [h]
  exact e
theorem fn_next {n : Nat} {b : MS} {ds : List D} {r : Res D} (h : b (ds.map some ++ List.replicate (n - ds.length) none) S = .next ρ S1) (e : retOf S .non S1 = r) : fnOf n b ds S = r := by
  unfold fnOf
  rw [h]
  exact e
theorem fn_exc {n : Nat} {b : MS} {ds : List D} {r : Res D} (h : b (ds.map some ++ List.replicate (n - ds.length) none) S = .exc c d ρ S1) (e : excOf S c d S1 = r) : fnOf n b ds S = r := by
  unfold fnOf
  rw [h]
  exact e
end
end MI

set_option Elab.async false
set_option linter.all false
set_option maxRecDepth 100000
set_option maxHeartbeats 4000000
namespace MI.K01
open PySem PySem.Spec PyProof.Rows L2 MI
variable {S : Store}
/-- in lowest terms -/
def loP (a b : Int) : Int := a / (Nat.gcd a.natAbs b.natAbs : Int)
def loQ (a b : Int) : Int := b / (Nat.gcd a.natAbs b.natAbs : Int)
def lo (a b : Int) : D := .tup [.int (loP a b), .int (loQ a b)]
theorem log2_le {a b : Nat} (h : a ≤ b) : a.log2 ≤ b.log2 := by
  by_cases ha : a = 0
  · subst ha; simp
  · exact (Nat.le_log2 (by omega)).mpr (Nat.le_trans (Nat.log2_self_le ha) h)
theorem gcd_pos {a b : Int} (hb : b ≠ 0) : 0 < Nat.gcd a.natAbs b.natAbs := Nat.gcd_pos_of_pos_right _ (by omega)
theorem gcd_le {a b : Int} (hb : b ≠ 0) : Nat.gcd a.natAbs b.natAbs ≤ b.natAbs := Nat.gcd_le_right _ (by omega)
theorem cDiv_of {i j : Int} (h : j ≠ 0) (l : j.natAbs.log2 < 9000) : cDiv i j = true := by
  unfold cDiv
  simp [h, l]
theorem f_reduced_pos {a b : Int} (hb : 0 < b) (hl : b.natAbs.log2 < 9000) : f_reduced [.int a, .int b] S = .ok (lo a b) S := by
  have g0 := gcd_pos (a := a) (b := b) (by omega)
  have gl := log2_le (gcd_le (a := a) (b := b) (by omega))
  have h1 : ¬ b < 0 := by omega
  have hc : ∀ i, cDiv i (Nat.gcd a.natAbs b.natAbs : Int) = true := fun i => cDiv_of (by omega) (by rw [Int.natAbs_natCast]; omega)
  refine fn_ret (S1 := S) ?_ ret_same
  simp [b_reduced, h1, g_div (hc _), g_tup, lo, loP, loQ, Int.fdiv_eq_ediv_of_nonneg]
theorem f_reduced_neg {a b : Int} (hb : b < 0) (hl : b.natAbs.log2 < 9000) : f_reduced [.int a, .int b] S = .ok (lo (-a) (-b)) S := by
  have g0 := gcd_pos (a := a) (b := b) (by omega)
  have gl := log2_le (gcd_le (a := a) (b := b) (by omega))
  have hc : ∀ i, cDiv i (-(Nat.gcd a.natAbs b.natAbs : Int)) = true := fun i => cDiv_of (by omega) (by rw [Int.natAbs_neg, Int.natAbs_natCast]; omega)
  have hf : ∀ i : Int, i.fdiv (-(Nat.gcd a.natAbs b.natAbs : Int)) = (-i) / (Nat.gcd a.natAbs b.natAbs : Int) := fun i => by
    rw [← Int.neg_fdiv_neg, Int.neg_neg, Int.fdiv_eq_ediv_of_nonneg _ (by omega)]
  refine fn_ret (S1 := S) ?_ ret_same
  simp [b_reduced, hb, g_div (hc _), g_tup, lo, loP, loQ, hf]
/-! the jug -/
def JugAt (S : Store) (i : Nat) (n : Nat) : Prop := ∃ a x k : Int, S[i]? = some (.lst [.int a, .int x, .int k]) ∧ 0 ≤ x ∧ x < 10000000000000000000000000 ∧ 0 ≤ k ∧ k ≤ n
/-- only the jug has changed -/
def Jugged (S S1 : Store) (i : Nat) (n : Nat) : Prop := ∃ a x k : Int, S1 = S.set i (.lst [.int a, .int x, .int k]) ∧ 0 ≤ x ∧ x < 10000000000000000000000000 ∧ 0 ≤ k ∧ k ≤ n
theorem log2_lt {a : Nat} {k : Nat} (h : a < 2 ^ k) (hk : 0 < k) : a.log2 < k := by
  by_cases ha : a = 0
  · subst ha; simpa using hk
  · exact (Nat.log2_lt ha).mpr h
theorem mulOk_of {i j : Int} {m n : Nat} (hi : i.natAbs < 2 ^ m) (hj : j.natAbs < 2 ^ n) (h : m + n ≤ 100000000) (hm : 0 < m := by decide) (hn : 0 < n := by decide) : mulOk i j = true := by
  have h1 := log2_lt hi hm
  have h2 := log2_lt hj hn
  unfold mulOk
  simp
  omega
theorem pow27 : gPow (.int 10) (.int 27) S = .ok (.int 1000000000000000000000000000) S := (g_pow (by decide)).trans rfl
theorem pow23 : gPow (.int 10) (.int 23) S = .ok (.int 100000000000000000000000) S := (g_pow (by decide)).trans rfl
theorem pow26 : gPow (.int 10) (.int 26) S = .ok (.int 100000000000000000000000000) S := (g_pow (by decide)).trans rfl
theorem pow24 : gPow (.int 10) (.int 24) S = .ok (.int 1000000000000000000000000) S := (g_pow (by decide)).trans rfl
theorem pow18 : gPow (.int 10) (.int 18) S = .ok (.int 1000000000000000000) S := (g_pow (by decide)).trans rfl
theorem pow13 : gPow (.int 10) (.int 13) S = .ok (.int 10000000000000) S := (g_pow (by decide)).trans rfl
theorem pow9 : gPow (.int 10) (.int 9) S = .ok (.int 1000000000) S := (g_pow (by decide)).trans rfl
theorem fmod_bd {a m : Int} (h : 0 < m) : 0 ≤ a.fmod m ∧ a.fmod m < m := by
  rw [Int.fmod_eq_emod_of_nonneg _ (by omega)]
  exact ⟨Int.emod_nonneg _ (by omega), Int.emod_lt_of_pos _ h⟩
def stir (x k : Int) : Int := ((x + k * 17624813) ^ (3 : Int).toNat).fmod (1000000000000000000000000000 + 103)
def pick (st m : Int) : Int := (((st ^ (2 : Int).toNat + st.fdiv 7907).fmod (100000000000000000000000 + 117)).fdiv 10007).fmod m
theorem f_drop_eq {i n : Nat} {m : Int} (hm : 0 < m) (hm2 : m ≤ 100000000000000000000) (h : JugAt S i n) (hn : n < 1000000) : ∃ (r : Int) (S1 : Store), f_drop [.ref i, .int m] S = .ok (.int r) S1 ∧ 0 ≤ r ∧ r < m ∧ Jugged S S1 i (n + 1) := by
  obtain ⟨a, x, k, hS, x0, x1, k0, k1⟩ := h
  have hi : i < S.length := (List.getElem?_eq_some_iff.mp hS).1
  have lm : m.natAbs.log2 < 9000 := Nat.lt_trans (log2_lt (k := 70) (show m.natAbs < 2 ^ 70 by omega) (by decide)) (by decide)
  have i0 : gIx (.ref i) (.int 0) S = .ok (.int a) S := ix_r hS (atI_nat (j := 0) rfl)
  have i1 : gIx (.ref i) (.int 2) S = .ok (.int k) S := ix_r hS (atI_nat (j := 2) rfl)
  have cb : ∀ a x k : Int, cellBelow S.length (.lst [.int a, .int x, .int k]) = true := fun a x k => by simp [cellBelow, belows, below]
  have rs : ∀ (r : Int) (c : Cell), cellBelow S.length c = true → retOf S (.int r) (S.set i c) = .ok (.int r) (S.set i c) := fun r c hc => by
    have := ret_set (S := S) (T := []) (i := i) (d := .int r) hc (by simp [below])
    rwa [List.append_nil] at this
  have m0 : m ≠ 0 := by omega
  by_cases ha : 0 < a
  · refine ⟨a.fmod m, S.set i (.lst [.int (a.fdiv m), .int x, .int k]), ?_, (fmod_bd hm).1, (fmod_bd hm).2, a.fdiv m, x, k, rfl, x0, x1, k0, by omega⟩
    refine fn_ret (S1 := S.set i (.lst [.int (a.fdiv m), .int x, .int k])) ?_ (rs _ _ (cb _ _ _))
    have gs : gSet (.ref i) (.int 0) (.int (a.fdiv m)) S = .ok () (S.set i (.lst [.int (a.fdiv m), .int x, .int k])) := set_r (k := 0) hS (by simp)
    simp [b_drop, i0, ha, g_mod m0, g_div (cDiv_of m0 lm), gs]
  · have gs : gSet (.ref i) (.int 2) (.int (k + 1)) S = .ok () (S.set i (.lst [.int a, .int x, .int (k + 1)])) := set_r (k := 2) hS (by simp)
    have hS1 : (S.set i (.lst [.int a, .int x, .int (k + 1)]))[i]? = some (.lst [.int a, .int x, .int (k + 1)]) := by rw [List.getElem?_set_self hi]
    have j1 : gIx (.ref i) (.int 1) (S.set i (.lst [.int a, .int x, .int (k + 1)])) = .ok (.int x) (S.set i (.lst [.int a, .int x, .int (k + 1)])) := ix_r hS1 (atI_nat (j := 1) rfl)
    have j2 : gIx (.ref i) (.int 2) (S.set i (.lst [.int a, .int x, .int (k + 1)])) = .ok (.int (k + 1)) (S.set i (.lst [.int a, .int x, .int (k + 1)])) := ix_r hS1 (atI_nat (j := 2) rfl)
    have q1 : mulOk (k + 1) 17624813 = true := mulOk_of (m := 64) (n := 64) (by omega) (by decide) (by decide)
    have q2 : cPow (x + (k + 1) * 17624813) 3 = true := by
      have : (x + (k + 1) * 17624813).natAbs.log2 < 100 := log2_lt (show (x + (k + 1) * 17624813).natAbs < 2 ^ 100 by omega) (by decide)
      unfold cPow
      simp
      omega
    have s0 := fmod_bd (a := (x + (k + 1) * 17624813) ^ (3 : Int).toNat) (m := 1000000000000000000000000000 + 103) (by decide)
    have q3 : cPow (stir x (k + 1)) 2 = true := by
      have : (stir x (k + 1)).natAbs.log2 < 100 := log2_lt (show (stir x (k + 1)).natAbs < 2 ^ 100 by unfold stir; omega) (by decide)
      unfold cPow
      simp
      omega
    refine ⟨pick (stir x (k + 1)) m, S.set i (.lst [.int a, .int x, .int (k + 1)]), fn_ret (S1 := S.set i (.lst [.int a, .int x, .int (k + 1)])) (d := .int (pick (stir x (k + 1)) m)) ?_ (rs _ _ (cb _ _ _)), (fmod_bd hm).1, (fmod_bd hm).2, a, x, k + 1, rfl, x0, x1, by omega, by omega⟩
    have d1 : cDiv (stir x (k + 1)) 7907 = true := cDiv_of (by decide) (by decide)
    have d2 : ∀ z, cDiv z 10007 = true := fun z => cDiv_of (by decide) (by decide)
    have n1 : (1000000000000000000000000000 + 103 : Int) ≠ 0 := by decide
    have n2 : (100000000000000000000000 + 117 : Int) ≠ 0 := by decide
    have e1 : ((x + (k + 1) * 17624813) ^ (3 : Int).toNat).fmod (1000000000000000000000000000 + 103) = stir x (k + 1) := rfl
    simp only [b_drop, ev_Seq, ev_sIf, ev_Tst, ev_Op, ev_C, List.map_cons, List.map_nil, List.length_cons, List.length_nil, List.replicate, List.cons_append, List.nil_append, v_0, v_1, v_2, v_3, bind_ok, bindR_ok, then_next, then_ret, i0, g_gt, isB_bl, ha, decide_false, Bool.false_eq_true, if_false, ev_Pass, ev_Set, i1, g_add, gs, ev_Asg, ev_App, ev_Cons, ev_Nil, j1, j2, g_mul q1, g_pow q2, g_int, pow27, pow23, g_mod n1, g_mod n2, g_mod m0, e1, List.set_cons_zero, List.set_cons_succ, ev_Ret, g_pow q3, g_div d1, g_div (d2 _), Nat.reduceAdd, Nat.reduceSub]
    rfl
end MI.K01

set_option Elab.async false
set_option linter.all false
set_option maxRecDepth 100000
set_option maxHeartbeats 4000000
namespace MI.K01
open PySem PySem.Spec PyProof.Rows L2 MI
variable {S S1 S2 : Store}
/-! stores that differ by the jug and by new cells -/
def JugT (S S1 : Store) (i : Nat) (n : Nat) : Prop := ∃ (a x k : Int) (T : Store), S1 = S.set i (.lst [.int a, .int x, .int k]) ++ T ∧ 0 ≤ x ∧ x < 10000000000000000000000000 ∧ 0 ≤ k ∧ k ≤ n
theorem JugAt.lt {i n} (h : JugAt S i n) : i < S.length := by
  obtain ⟨_, _, _, h, _⟩ := h
  exact (List.getElem?_eq_some_iff.mp h).1
theorem Jugged.t {i n} (h : Jugged S S1 i n) : JugT S S1 i n := by
  obtain ⟨a, x, k, rfl, h⟩ := h
  exact ⟨a, x, k, [], by rw [List.append_nil], h⟩
theorem JugT.at {i n} (h : JugT S S1 i n) (hi : i < S.length) : JugAt S1 i n := by
  obtain ⟨a, x, k, T, rfl, h⟩ := h
  exact ⟨a, x, k, by rw [List.getElem?_append_left (by simpa using hi), List.getElem?_set_self hi], h⟩
theorem JugT.more {i n} (h : JugT S S1 i n) (T : Store) : JugT S (S1 ++ T) i n := by
  obtain ⟨a, x, k, T0, rfl, h⟩ := h
  exact ⟨a, x, k, T0 ++ T, by rw [List.append_assoc], h⟩
theorem JugT.trans {i n m} (h : JugT S S1 i n) (g : JugT S1 S2 i m) (hi : i < S.length) : JugT S S2 i m := by
  obtain ⟨a, x, k, T, rfl, h⟩ := h
  obtain ⟨a', x', k', T', rfl, g⟩ := g
  refine ⟨a', x', k', T ++ T', ?_, g⟩
  rw [List.set_append_left _ _ (by simpa using hi), List.set_set, List.append_assoc]
theorem JugAt.refl {i n} (h : JugAt S i n) : JugT S S i n := by
  obtain ⟨a, x, k, h1, h2⟩ := h
  refine ⟨a, x, k, [], ?_, h2⟩
  have hi := (List.getElem?_eq_some_iff.mp h1)
  rw [List.append_nil]
  apply List.ext_getElem?
  intro j
  by_cases hj : j = i
  · subst hj; rw [List.getElem?_set_self hi.1, h1]
  · rw [List.getElem?_set_ne (Ne.symm hj)]
theorem JugT.le {i n m} (h : JugT S S1 i n) (hm : n ≤ m) : JugT S S1 i m := by
  obtain ⟨a, x, k, T, e, h1, h2, h3, h4⟩ := h
  exact ⟨a, x, k, T, e, h1, h2, h3, by omega⟩
theorem Jugged.len {i n} (h : Jugged S S1 i n) : S1.length = S.length := by
  obtain ⟨a, x, k, rfl, _⟩ := h
  simp
theorem JugT.get {i n j : Nat} {c : Cell} (h : JugT S S1 i n) (hj : S[j]? = some c) (ne : j ≠ i) : S1[j]? = some c := by
  obtain ⟨a, x, k, T, rfl, _⟩ := h
  have := (List.getElem?_eq_some_iff.mp hj).1
  rw [List.getElem?_append_left (by simpa using this), List.getElem?_set_ne (Ne.symm ne)]
  exact hj
theorem ret_jug {i n} {d : D} (h : JugT S S1 i n) (b : below S.length d = true) : ∃ S2, retOf S d S1 = .ok d S2 ∧ Jugged S S2 i n := by
  obtain ⟨a, x, k, T, rfl, h⟩ := h
  exact ⟨_, ret_set (by simp [cellBelow, belows, below]) b, a, x, k, rfl, h⟩
/-- a drop, in any store on the way -/
theorem drop_t {i n : Nat} {m : Int} (hm : 0 < m) (hm2 : m ≤ 100000000000000000000) (h : JugT S S1 i n) (hi : i < S.length) (hn : n < 1000000) : ∃ (r : Int) (S2 : Store), f_drop [.ref i, .int m] S1 = .ok (.int r) S2 ∧ 0 ≤ r ∧ r < m ∧ JugT S S2 i (n + 1) ∧ JugT S1 S2 i (n + 1) := by
  obtain ⟨r, S2, e, r0, r1, j⟩ := f_drop_eq hm hm2 (h.at hi) hn
  exact ⟨r, S2, e, r0, r1, h.trans j.t hi, j.t⟩
theorem f_size_eq {i n : Nat} (h : JugAt S i n) (hn : n < 900000) : ∃ (r : Int) (S1 : Store), f_size [.ref i] S = .ok (.int r) S1 ∧ 0 ≤ r ∧ r < 1000000000000000000000000000000000000000 ∧ Jugged S S1 i (n + 4) := by
  have hi := h.lt
  obtain ⟨r, S1, e, r0, r1, j⟩ := f_drop_eq (m := 6) (by decide) (by decide) h (by omega)
  by_cases h5 : r = 5
  · subst h5
    obtain ⟨a, S2, ea, a0, a1, j2, _⟩ := drop_t (m := 10000000000000) (by decide) (by decide) j.t hi (by omega)
    obtain ⟨b, S3, eb, b0, b1, j3, _⟩ := drop_t (m := 10000000000000) (by decide) (by decide) j2 hi (by omega)
    obtain ⟨c, S4, ec, c0, c1, j4, _⟩ := drop_t (m := 10000000000000) (by decide) (by decide) j3 hi (by omega)
    obtain ⟨S5, er, j5⟩ := ret_jug (d := .int (a * 100000000000000000000000000 + b * 10000000000000 + c)) j4 (by simp [below])
    refine ⟨_, S5, fn_ret (S1 := S4) ?_ er, by omega, by omega, j5⟩
    have q1 : mulOk a 100000000000000000000000000 = true := mulOk_of (m := 64) (n := 100) (by omega) (by decide) (by decide)
    have q2 : mulOk b 10000000000000 = true := mulOk_of (m := 64) (n := 100) (by omega) (by decide) (by decide)
    simp [b_size, e, ea, eb, ec, pow13, pow26, g_mul q1, g_mul q2]
  · have hr : r = 0 ∨ r = 1 ∨ r = 2 ∨ r = 3 ∨ r = 4 := by omega
    have key : ∀ (m : Int), 0 < m → m ≤ 1000000000 → (∀ S', gIx (.ref S'.length) (.int r) (S' ++ [.lst [.int 2, .int 4, .int 13, .int 1000, .int 1000000000]]) = .ok (.int m) (S' ++ [.lst [.int 2, .int 4, .int 13, .int 1000, .int 1000000000]])) →
        ∃ (r : Int) (S1 : Store), f_size [.ref i] S = .ok (.int r) S1 ∧ 0 ≤ r ∧ r < 1000000000000000000000000000000000000000 ∧ Jugged S S1 i (n + 4) := fun m m0 m1 hx => by
      obtain ⟨a, S2, ea, a0, a1, j2, _⟩ := drop_t (m := m) m0 (by omega) (j.t.more [.lst [.int 2, .int 4, .int 13, .int 1000, .int 1000000000]]) hi (by omega)
      obtain ⟨S5, er, j5⟩ := ret_jug (d := .int a) (j2.le (m := n + 4) (by omega)) (by simp [below])
      refine ⟨_, S5, fn_ret (S1 := S2) ?_ er, a0, by omega, j5⟩
      simp [b_size, e, h5, pow9, g_lst, hx, ea]
    have at_ : ∀ (S' : Store) (L : List D), (S' ++ [Cell.lst L])[S'.length]? = some (.lst L) := fun S' L => by simp
    rcases hr with rfl | rfl | rfl | rfl | rfl
    · exact key 2 (by decide) (by decide) fun S' => ix_r (at_ _ _) (atI_nat (j := 0) rfl)
    · exact key 4 (by decide) (by decide) fun S' => ix_r (at_ _ _) (atI_nat (j := 1) rfl)
    · exact key 13 (by decide) (by decide) fun S' => ix_r (at_ _ _) (atI_nat (j := 2) rfl)
    · exact key 1000 (by decide) (by decide) fun S' => ix_r (at_ _ _) (atI_nat (j := 3) rfl)
    · exact key 1000000000 (by decide) (by decide) fun S' => ix_r (at_ _ _) (atI_nat (j := 4) rfl)
/-! the greatest divisor, turn by turn -/
def lowBody : MS := sSeq (sIf (mTst (mOp gEq (mV 3) (mC (.int 0)))) (sBrk) (sPass)) (sPar 2 3 (mV 3) (mOp gMod (mApp gInt (mCons (mV 2) (mNil))) (mV 3)))
theorem low_stop {x : Nat} {A B : D} {o d : Option D} : lowBody [some A, some B, some (.int x), some (.int 0), d] S = .brk [some A, some B, some (.int x), some (.int 0), d] S := by
  simp [lowBody]
theorem low_turn {x y : Nat} (hy : y ≠ 0) {A B : D} {d : Option D} : lowBody [some A, some B, some (.int x), some (.int y), d] S = .next [some A, some B, some (.int y), some (.int (x % y : Nat)), d] S := by
  have h0 : ¬ (y : Int) = 0 := by omega
  have h1 : (x : Int).fmod (y : Int) = ((x % y : Nat) : Int) := by rw [Int.fmod_eq_emod_of_nonneg _ (by omega)]; rfl
  simp [lowBody, hy, g_mod h0, h1]
theorem low_loop {its : List D} {A B : D} : ∀ (k : Nat) (items : List D) (x y : Nat) (o : Option D), y < 2 ^ k → 2 * k ≤ items.length → ∃ z, forL (.nm 4) lowBody ⟨[], its⟩ items [some A, some B, some (.int x), some (.int y), o] S = .next [some A, some B, some (.int (Nat.gcd x y : Nat)), some (.int 0), z] S := by
  have stop : ∀ (items : List D) (x : Nat) (o : Option D), ∃ z, forL (.nm 4) lowBody ⟨[], its⟩ items [some A, some B, some (.int x), some (.int 0), o] S = .next [some A, some B, some (.int x), some (.int 0), z] S := by
    intro items x o
    cases items with
    | nil => exact ⟨o, rfl⟩
    | cons d ds => exact ⟨some d, by
        show (match lowBody [some A, some B, some (.int x), some (.int 0), some d] S with
          | .next ρ2 S2 => forL (.nm 4) lowBody ⟨[], its⟩ ds ρ2 S2
          | .cont ρ2 S2 => forL (.nm 4) lowBody ⟨[], its⟩ ds ρ2 S2
          | .brk ρ2 S2 => SR.next ρ2 S2
          | r => r) = _
        rw [low_stop (o := none)]⟩
  have turn : ∀ (d : D) (ds : List D) (x y : Nat) (o : Option D), y ≠ 0 → forL (.nm 4) lowBody ⟨[], its⟩ (d :: ds) [some A, some B, some (.int x), some (.int y), o] S = forL (.nm 4) lowBody ⟨[], its⟩ ds [some A, some B, some (.int y), some (.int (x % y : Nat)), some d] S := by
    intro d ds x y o hy
    show (match lowBody [some A, some B, some (.int x), some (.int y), some d] S with
          | .next ρ2 S2 => forL (.nm 4) lowBody ⟨[], its⟩ ds ρ2 S2
          | .cont ρ2 S2 => forL (.nm 4) lowBody ⟨[], its⟩ ds ρ2 S2
          | .brk ρ2 S2 => SR.next ρ2 S2
          | r => r) = _
    rw [low_turn hy]
  intro k
  induction k with
  | zero =>
    intro items x y o hy _
    obtain rfl : y = 0 := by simpa using hy
    rw [Nat.gcd_zero_right]
    exact stop items x o
  | succ k ih =>
    intro items x y o hy hl
    by_cases y0 : y = 0
    · subst y0
      rw [Nat.gcd_zero_right]
      exact stop items x o
    · match items, hl with
      | d :: e :: ds, hl =>
        rw [turn d (e :: ds) x y o y0]
        by_cases r0 : x % y = 0
        · rw [r0]
          have g : Nat.gcd x y = y := by rw [Nat.gcd_comm, Nat.gcd_rec, r0, Nat.gcd_zero_left]
          rw [g]
          exact stop _ y _
        · rw [turn e ds y (x % y) _ r0]
          have g : Nat.gcd x y = Nat.gcd (x % y) (y % (x % y)) := by
            rw [Nat.gcd_comm x y, Nat.gcd_rec y x, Nat.gcd_rec (x % y) y, Nat.gcd_comm]
          rw [g]
          refine ih ds _ _ _ ?_ (by simp at hl; omega)
          have l1 : x % y < y := Nat.mod_lt _ (by omega)
          have l2 : y % (x % y) < x % y := Nat.mod_lt _ (by omega)
          have l3 : (x % y) * (y / (x % y)) + y % (x % y) = y := Nat.div_add_mod _ _
          have l4 : 1 ≤ y / (x % y) := Nat.div_pos (by omega) (by omega)
          have l5 : x % y ≤ (x % y) * (y / (x % y)) := Nat.le_mul_of_pos_right _ l4
          rw [Nat.pow_succ] at hy
          omega
      | [d], hl => simp at hl; omega
      | [], hl => simp at hl
theorem f_low_eq {a b : Int} (hb : 0 < b) (hl : b.natAbs < 2 ^ 8999) : f_low [.int a, .int b] S = .ok (lo a b) S := by
  have g0 := gcd_pos (a := a) (b := b) (by omega)
  have gl : (Nat.gcd a.natAbs b.natAbs).log2 < 9000 := Nat.lt_trans (log2_lt (Nat.lt_of_le_of_lt (gcd_le (a := a) (b := b) (by omega)) hl) (by decide)) (by decide)
  have hc : ∀ i, cDiv i (Nat.gcd a.natAbs b.natAbs : Int) = true := fun i => cDiv_of (by omega) (by rw [Int.natAbs_natCast]; exact gl)
  have eb : (b.natAbs : Int) = b := by omega
  obtain ⟨z, e⟩ := low_loop (S := S) (its := rng 0 20000) (A := .int a) (B := .int b) 8999 (rng 0 20000) a.natAbs b.natAbs none hl (by simp [rng])
  rw [eb] at e
  refine fn_ret (S1 := S) ?_ ret_same
  have er : mRng1 (mC (.int 20000)) [some (.int a), some (.int b), some (.int a.natAbs), some (.int b), none] S = .ok ⟨[], rng 0 20000⟩ S := id rfl
  have ef : sFor (.nm 4) (mRng1 (mC (.int 20000))) lowBody [some (.int a), some (.int b), some (.int a.natAbs), some (.int b), none] S = .next [some (.int a), some (.int b), some (.int (Nat.gcd a.natAbs b.natAbs : Nat)), some (.int 0), z] S := by
    unfold sFor
    rw [er]
    exact e
  unfold lowBody at ef
  simp only [b_low, List.map_cons, List.map_nil, List.length_cons, List.length_nil, List.replicate, List.cons_append, List.nil_append, Nat.reduceAdd, Nat.reduceSub, ev_Seq, ev_Asg, ev_App, ev_Cons, ev_Nil, v_0, v_1, v_2, bind_ok, bindR_ok, g_abs, then_next, List.set_cons_zero, List.set_cons_succ, ef, ev_Ret, ev_Op, g_div (hc _)]
  rw [g_tup (by simp)]
  simp only [bindR_ok]
  unfold lo loP loQ
  rw [Int.fdiv_eq_ediv_of_nonneg _ (by omega), Int.fdiv_eq_ediv_of_nonneg _ (by omega)]
end MI.K01

set_option Elab.async false
set_option linter.all false
set_option maxRecDepth 100000
set_option maxHeartbeats 4000000
namespace MI.K01
open PySem PySem.Spec PyProof.Rows L2 MI
variable {S S1 S2 : Store}
/-- a fraction, its parts below 2 ^ B -/
structure Fr (B : Nat) (p q : Int) : Prop where
  pos : 1 ≤ q
  low : Nat.gcd p.natAbs q.natAbs = 1
  bp : p.natAbs < 2 ^ B
  bq : q.natAbs < 2 ^ B
abbrev fr (p q : Int) : D := .tup [.int p, .int q]
theorem Fr.le {B C : Nat} {p q : Int} (h : Fr B p q) (l : B ≤ C) : Fr C p q := ⟨h.pos, h.low, Nat.lt_of_lt_of_le h.bp (Nat.pow_le_pow_right (by decide) l), Nat.lt_of_lt_of_le h.bq (Nat.pow_le_pow_right (by decide) l)⟩
theorem natAbs_ediv_le {a : Int} {g : Nat} : (a / (g : Int)).natAbs ≤ a.natAbs := Int.natAbs_ediv_le_natAbs a g
theorem lo_fr {B : Nat} {a b : Int} (hb : 0 < b) (ha : a.natAbs < 2 ^ B) (hB : b.natAbs < 2 ^ B) : Fr B (loP a b) (loQ a b) := by
  have g0 := gcd_pos (a := a) (b := b) (by omega)
  have d1 : (Nat.gcd a.natAbs b.natAbs : Int) ∣ a := Int.ofNat_dvd_left.mpr (Nat.gcd_dvd_left _ _)
  have d2 : (Nat.gcd a.natAbs b.natAbs : Int) ∣ b := Int.ofNat_dvd_left.mpr (Nat.gcd_dvd_right _ _)
  refine ⟨?_, ?_, Nat.lt_of_le_of_lt natAbs_ediv_le ha, Nat.lt_of_le_of_lt natAbs_ediv_le hB⟩
  · unfold loQ
    have : 0 < b / (Nat.gcd a.natAbs b.natAbs : Int) := Int.ediv_pos_of_pos_of_dvd hb (by omega) d2
    omega
  · unfold loP loQ
    rw [Int.natAbs_ediv_of_dvd d1, Int.natAbs_ediv_of_dvd d2, Int.natAbs_natCast]
    exact Nat.coprime_div_gcd_div_gcd g0
theorem lo_eq {a b : Int} : lo a b = fr (loP a b) (loQ a b) := rfl
theorem pow_le {a B C : Nat} (h : a < 2 ^ B) (l : B ≤ C) : a < 2 ^ C := Nat.lt_of_lt_of_le h (Nat.pow_le_pow_right (by decide) l)
theorem mul_lt {i j : Int} {m n : Nat} (hi : i.natAbs < 2 ^ m) (hj : j.natAbs < 2 ^ n) : (i * j).natAbs < 2 ^ (m + n) := by
  rw [Int.natAbs_mul, Nat.pow_add]
  exact Nat.mul_lt_mul'' hi hj
theorem add_lt {i j : Int} {m : Nat} (hi : i.natAbs < 2 ^ m) (hj : j.natAbs < 2 ^ m) : (i + j).natAbs < 2 ^ (m + 1) := by
  have := Int.natAbs_add_le i j
  rw [Nat.pow_succ]
  omega
theorem sub_lt {i j : Int} {m : Nat} (hi : i.natAbs < 2 ^ m) (hj : j.natAbs < 2 ^ m) : (i - j).natAbs < 2 ^ (m + 1) := by
  have := Int.natAbs_sub_le i j
  rw [Nat.pow_succ]
  omega
/-- one drawn fraction -/
theorem f_draw_eq {i n : Nat} (h : JugAt S i n) (hn : n < 800000) : ∃ (p q : Int) (S1 : Store), f_draw [.ref i] S = .ok (fr p q) S1 ∧ Fr 130 p q ∧ Jugged S S1 i (n + 9) := by
  have hi := h.lt
  obtain ⟨a, S1, ea, a0, a1, j1⟩ := f_size_eq h (by omega)
  obtain ⟨t, S2, et, t0, t1, j2, _⟩ := drop_t (m := 3) (by decide) (by decide) j1.t hi (by omega)
  obtain ⟨b, S3, eb, b0, b1, j3⟩ := f_size_eq (j2.at hi) (by omega)
  have j4 := j2.trans j3.t hi
  have fb : (1 + b).natAbs < 2 ^ 130 := by omega
  by_cases h0 : t = 0
  · subst h0
    obtain ⟨S4, er, j5⟩ := ret_jug (d := lo (0 - a) (1 + b)) j4 (by simp [lo, below, belows])
    refine ⟨_, _, S4, fn_ret (S1 := S3) ?_ er, lo_fr (by omega) (by omega) fb, j5⟩
    have e1 : (0 - a) = -a := by omega
    have el := f_low_eq (S := S3) (a := -a) (b := 1 + b) (by omega) (pow_le fb (by decide))
    simp [b_draw, ea, et, eb, el]
  · obtain ⟨S4, er, j5⟩ := ret_jug (d := lo a (1 + b)) j4 (by simp [lo, below, belows])
    refine ⟨_, _, S4, fn_ret (S1 := S3) ?_ er, lo_fr (by omega) (by omega) fb, j5⟩
    have el := f_low_eq (S := S3) (a := a) (b := 1 + b) (by omega) (pow_le fb (by decide))
    simp [b_draw, ea, et, h0, eb, el]
theorem f_second_eq {i n : Nat} {p q : Int} (h : JugAt S i n) (hn : n < 700000) (hf : Fr 130 p q) : ∃ (p' q' : Int) (S1 : Store), f_second [.ref i, fr p q] S = .ok (fr p' q') S1 ∧ Fr 132 p' q' ∧ Jugged S S1 i (n + 10) := by
  have hi := h.lt
  obtain ⟨w, S1, ew, w0, w1, j1⟩ := f_drop_eq (m := 6) (by decide) (by decide) h (by omega)
  have q0 := hf.pos
  by_cases h0 : w = 0
  · subst h0
    obtain ⟨S4, er, j5⟩ := ret_jug (d := fr p q) (j1.t.le (m := n + 10) (by omega)) (by simp [below, belows])
    exact ⟨p, q, S4, fn_ret (S1 := S1) (by simp [b_second, ew]) er, hf.le (by decide), j5⟩
  by_cases h1 : w = 1
  · subst h1
    obtain ⟨S4, er, j5⟩ := ret_jug (d := fr (0 - p) q) (j1.t.le (m := n + 10) (by omega)) (by simp [below, belows])
    refine ⟨0 - p, q, S4, fn_ret (S1 := S1) (by simp [b_second, ew, g_tup]) er, ?_, j5⟩
    have e : (0 - p).natAbs = p.natAbs := by omega
    exact ⟨q0, by rw [e]; exact hf.low, by rw [e]; exact pow_le hf.bp (by decide), pow_le hf.bq (by decide)⟩
  by_cases h2 : w = 2 ∧ 0 < p
  · obtain ⟨rfl, hp⟩ := h2
    obtain ⟨S4, er, j5⟩ := ret_jug (d := fr q p) (j1.t.le (m := n + 10) (by omega)) (by simp [below, belows])
    refine ⟨q, p, S4, fn_ret (S1 := S1) (by simp [b_second, ew, g_tup, hp]) er, ?_, j5⟩
    exact ⟨hp, by rw [Nat.gcd_comm]; exact hf.low, pow_le hf.bq (by decide), pow_le hf.bp (by decide)⟩
  by_cases h3 : w = 3
  · subst h3
    obtain ⟨r, S2, er0, r0, r1, j2, _⟩ := drop_t (m := 2) (by decide) (by decide) j1.t hi (by omega)
    have q1 : mulOk r q = true := mulOk_of (m := 2) (n := 130) (by omega) hf.bq (by decide)
    have b1 : (p + r * q).natAbs < 2 ^ 132 := add_lt (m := 131) (pow_le hf.bp (by decide)) (mul_lt (m := 1) (n := 130) (by omega) hf.bq)
    have el := f_low_eq (S := S2) (a := p + r * q) (b := q) (by omega) (pow_le hf.bq (by decide))
    obtain ⟨S4, er, j5⟩ := ret_jug (d := lo (p + r * q) q) (j2.le (m := n + 10) (by omega)) (by simp [lo, below, belows])
    refine ⟨_, _, S4, fn_ret (S1 := S2) ?_ er, lo_fr (by omega) b1 (pow_le hf.bq (by decide)), j5⟩
    simp [b_second, ew, er0, g_mul q1, el]
  · obtain ⟨p', q', S2, ed, hf', j2⟩ := f_draw_eq (j1.t.at hi) (by omega)
    obtain ⟨S4, er, j5⟩ := ret_jug (d := fr p' q') (j1.t.trans j2.t hi) (by simp [below, belows])
    refine ⟨p', q', S4, fn_ret (S1 := S2) ?_ er, hf'.le (by decide), j5⟩
    by_cases hw : w = 2
    · subst hw
      have hp : ¬ 0 < p := fun z => h2 ⟨rfl, z⟩
      simp [b_second, ew, hp, ed]
    · simp [b_second, ew, h0, h1, hw, h3, ed]
/-! the program on fractions -/
theorem g_isTy {T : String} {d : D} {t : String} (h : tyName d S = some t) : gIsTy T d S = .ok (.bl (isTy t T)) S := by
  unfold gIsTy
  rw [h]
theorem f_is_integer_int {i : Int} : f_is_integer [.int i] S = .ok (.bl true) S := by
  refine fn_ret (S1 := S) ?_ ret_same
  have h1 : gIsTy "int" (.int i) S = .ok (.bl true) S := (g_isTy (t := "int") rfl).trans rfl
  have h2 : gIsTy "bool" (.int i) S = .ok (.bl false) S := (g_isTy (t := "int") rfl).trans rfl
  simp [b_is_integer, h1, h2]
theorem g_len2 {xs : List D} : gLen [.tup xs] S = .ok (.int xs.length) S := id rfl
theorem f_is_fraction_fr {p q : Int} : f_is_fraction [fr p q] S = .ok (.bl (decide (1 ≤ q) && decide (Nat.gcd p.natAbs q.natAbs = 1))) S := by
  refine fn_ret (S1 := S) ?_ ret_same
  have h1 : gIsTy "tuple" (fr p q) S = .ok (.bl true) S := (g_isTy (t := "tuple") rfl).trans rfl
  have e : ((Nat.gcd p.natAbs q.natAbs : Nat) : Int) = 1 ↔ Nat.gcd p.natAbs q.natAbs = 1 := by omega
  by_cases hq : 1 ≤ q <;> simp [b_is_fraction, h1, g_len2, f_is_integer_int, hq, e]
theorem Fr.is {B : Nat} {p q : Int} (h : Fr B p q) : f_is_fraction [fr p q] S = .ok (.bl true) S := by
  rw [f_is_fraction_fr]
  simp [h.pos, h.low]
theorem Fr.check {B : Nat} {p q : Int} (h : Fr B p q) : f_check_fraction [fr p q] S = .ok .non S := by
  refine fn_next (ρ := [some (fr p q)]) (S1 := S) ?_ ret_same
  simp [b_check_fraction, h.is]
section
variable {B : Nat} {p q r s : Int}
theorem f_added_eq (hB : B ≤ 4000) (h : Fr B p q) (g : Fr B r s) : f_added [fr p q, fr r s] S = .ok (lo (p * s + r * q) (q * s)) S := by
  refine fn_ret (S1 := S) ?_ ret_same
  have q1 : mulOk p s = true := mulOk_of (m := B + 1) (n := B + 1) (pow_le h.bp (by omega)) (pow_le g.bq (by omega)) (by omega) (by omega) (by omega)
  have q2 : mulOk r q = true := mulOk_of (m := B + 1) (n := B + 1) (pow_le g.bp (by omega)) (pow_le h.bq (by omega)) (by omega) (by omega) (by omega)
  have q3 : mulOk q s = true := mulOk_of (m := B + 1) (n := B + 1) (pow_le h.bq (by omega)) (pow_le g.bq (by omega)) (by omega) (by omega) (by omega)
  have b0 : 0 < q * s := Int.mul_pos (by have := h.pos; omega) (by have := g.pos; omega)
  have l0 : (q * s).natAbs.log2 < 9000 := log2_lt (pow_le (mul_lt h.bq g.bq) (by omega)) (by decide)
  simp [b_added, g_mul q1, g_mul q2, g_mul q3, f_reduced_pos b0 l0]
theorem f_lessened_eq (hB : B ≤ 4000) (h : Fr B p q) (g : Fr B r s) : f_lessened [fr p q, fr r s] S = .ok (lo (p * s - r * q) (q * s)) S := by
  refine fn_ret (S1 := S) ?_ ret_same
  have q1 : mulOk p s = true := mulOk_of (m := B + 1) (n := B + 1) (pow_le h.bp (by omega)) (pow_le g.bq (by omega)) (by omega) (by omega) (by omega)
  have q2 : mulOk r q = true := mulOk_of (m := B + 1) (n := B + 1) (pow_le g.bp (by omega)) (pow_le h.bq (by omega)) (by omega) (by omega) (by omega)
  have q3 : mulOk q s = true := mulOk_of (m := B + 1) (n := B + 1) (pow_le h.bq (by omega)) (pow_le g.bq (by omega)) (by omega) (by omega) (by omega)
  have b0 : 0 < q * s := Int.mul_pos (by have := h.pos; omega) (by have := g.pos; omega)
  have l0 : (q * s).natAbs.log2 < 9000 := log2_lt (pow_le (mul_lt h.bq g.bq) (by omega)) (by decide)
  simp [b_lessened, g_mul q1, g_mul q2, g_mul q3, f_reduced_pos b0 l0]
theorem f_multiplied_eq (hB : B ≤ 4000) (h : Fr B p q) (g : Fr B r s) : f_multiplied [fr p q, fr r s] S = .ok (lo (p * r) (q * s)) S := by
  refine fn_ret (S1 := S) ?_ ret_same
  have q1 : mulOk p r = true := mulOk_of (m := B + 1) (n := B + 1) (pow_le h.bp (by omega)) (pow_le g.bp (by omega)) (by omega) (by omega) (by omega)
  have q3 : mulOk q s = true := mulOk_of (m := B + 1) (n := B + 1) (pow_le h.bq (by omega)) (pow_le g.bq (by omega)) (by omega) (by omega) (by omega)
  have b0 : 0 < q * s := Int.mul_pos (by have := h.pos; omega) (by have := g.pos; omega)
  have l0 : (q * s).natAbs.log2 < 9000 := log2_lt (pow_le (mul_lt h.bq g.bq) (by omega)) (by decide)
  simp [b_multiplied, g_mul q1, g_mul q3, f_reduced_pos b0 l0]
/-- a quotient as reduced or the law tells it -/
def quo (a b : Int) : D := if b < 0 then lo (-a) (-b) else lo a b
theorem f_reduced_eq {a b : Int} (hb : b ≠ 0) (hl : b.natAbs.log2 < 9000) : f_reduced [.int a, .int b] S = .ok (quo a b) S := by
  unfold quo
  by_cases h : b < 0
  · rw [if_pos h]; exact f_reduced_neg h hl
  · rw [if_neg h]; exact f_reduced_pos (by omega) hl
theorem f_divided_eq (hB : B ≤ 4000) (h : Fr B p q) (g : Fr B r s) (hr : r ≠ 0) : f_divided [fr p q, fr r s] S = .ok (quo (p * s) (q * r)) S := by
  refine fn_ret (S1 := S) ?_ ret_same
  have q1 : mulOk p s = true := mulOk_of (m := B + 1) (n := B + 1) (pow_le h.bp (by omega)) (pow_le g.bq (by omega)) (by omega) (by omega) (by omega)
  have q3 : mulOk q r = true := mulOk_of (m := B + 1) (n := B + 1) (pow_le h.bq (by omega)) (pow_le g.bp (by omega)) (by omega) (by omega) (by omega)
  have b0 : q * r ≠ 0 := Int.mul_ne_zero (by have := h.pos; omega) hr
  have l0 : (q * r).natAbs.log2 < 9000 := log2_lt (pow_le (mul_lt h.bq g.bp) (by omega)) (by decide)
  simp [b_divided, g_mul q1, g_mul q3, f_reduced_eq b0 l0]
theorem f_plus_eq (hB : B ≤ 4000) (h : Fr B p q) (g : Fr B r s) : f_plus [fr p q, fr r s] S = .ok (lo (p * s + r * q) (q * s)) S :=
  fn_ret (S1 := S) (by simp [b_plus, h.check, g.check, f_added_eq hB h g]) ret_same
theorem f_less_eq (hB : B ≤ 4000) (h : Fr B p q) (g : Fr B r s) : f_less [fr p q, fr r s] S = .ok (lo (p * s - r * q) (q * s)) S :=
  fn_ret (S1 := S) (by simp [b_less, h.check, g.check, f_lessened_eq hB h g]) ret_same
theorem f_times_eq (hB : B ≤ 4000) (h : Fr B p q) (g : Fr B r s) : f_times [fr p q, fr r s] S = .ok (lo (p * r) (q * s)) S :=
  fn_ret (S1 := S) (by simp [b_times, h.check, g.check, f_multiplied_eq hB h g]) ret_same
end
end MI.K01

set_option Elab.async false
set_option linter.all false
set_option maxRecDepth 100000
set_option maxHeartbeats 4000000
set_option exponentiation.threshold 10000
namespace MI.K01
open PySem PySem.Spec PyProof.Rows L2 MI
variable {S S1 S2 : Store}
theorem g_eqB {neg : Bool} {x y : D} {p q : PyData} (h1 : toPy S fuelD x = some p) (h2 : toPy S fuelD y = some q) (s1 : SeqAt.shaped p = true) (s2 : SeqAt.shaped q = true) : gEqO neg x y S = .ok (.bl (if neg then !PyData.eqv p q else PyData.eqv p q)) S := by
  unfold gEqO
  rw [h1, h2]
  exact if_pos ⟨s1, s2⟩
theorem py_fr {p q : Int} : toPy S fuelD (fr p q) = some (.tuple [.int p, .int q]) := by simp [fuelD, toPy, toPys]
theorem sh_fr {p q : Int} : SeqAt.shaped (.tuple [.int p, .int q]) = true := by
  simp [SeqAt.shaped, PyData.canLay0, PyData.canLayAll0, PyData.depth, PyData.depthAll]
theorem eqv_int {a b : Int} : PyData.eqv (.int a) (.int b) = decide (a = b) := by
  unfold PyData.eqv
  rfl
theorem eqv_fr {p q r s : Int} : PyData.eqv (.tuple [.int p, .int q]) (.tuple [.int r, .int s]) = (decide (p = r) && decide (q = s)) := by
  simp [PyData.eqv, PyData.eqvAll]
  rfl
theorem g_eqFr {p q r s : Int} : gEq (fr p q) (fr r s) S = .ok (.bl (decide (p = r) && decide (q = s))) S := by
  show gEqO false (fr p q) (fr r s) S = _
  rw [g_eqB (neg := false) py_fr py_fr sh_fr sh_fr, eqv_fr]
  rfl
section
variable {B : Nat} {p q r s : Int}
theorem f_over_eq (hB : B ≤ 4000) (h : Fr B p q) (g : Fr B r s) (hr : r ≠ 0) : f_over [fr p q, fr r s] S = .ok (quo (p * s) (q * r)) S := by
  have hz : gEq (fr r s) (.tup d_ZERO) S = .ok (.bl false) S := by
    have e := g_eqFr (S := S) (p := r) (q := s) (r := 0) (s := 1)
    rw [decide_eq_false hr, Bool.false_and] at e
    exact e
  exact fn_ret (S1 := S) (by simp [b_over, h.check, g.check, hz, f_divided_eq hB h g hr]) ret_same
theorem f_order_eq (hB : B ≤ 4000) (h : Fr B p q) (g : Fr B r s) : f_order [fr p q, fr r s] S = .ok (.int (if p * s < r * q then -1 else if r * q < p * s then 1 else 0)) S := by
  refine fn_ret (S1 := S) ?_ ret_same
  have q1 : mulOk p s = true := mulOk_of (m := B + 1) (n := B + 1) (pow_le h.bp (by omega)) (pow_le g.bq (by omega)) (by omega) (by omega) (by omega)
  have q2 : mulOk r q = true := mulOk_of (m := B + 1) (n := B + 1) (pow_le g.bp (by omega)) (pow_le h.bq (by omega)) (by omega) (by omega) (by omega)
  by_cases h1 : p * s < r * q
  · simp [b_order, g_mul q1, g_mul q2, h1]
  · by_cases h2 : r * q < p * s <;> simp [b_order, g_mul q1, g_mul q2, h1, h2]
theorem f_compared_eq (hB : B ≤ 4000) (h : Fr B p q) (g : Fr B r s) : f_compared [fr p q, fr r s] S = .ok (.int (if p * s < r * q then -1 else if r * q < p * s then 1 else 0)) S :=
  fn_ret (S1 := S) (by simp [b_compared, h.check, g.check, f_order_eq hB h g]) ret_same
end
/-! the law's comparing -/
theorem same_int {n : Nat} {a : Int} : f_same (n + 1) [.int a, .int a] S = .ok (.bl true) S := by
  refine fn_ret (S1 := S) ?_ ret_same
  have h1 : gIsTy "tuple" (.int a) S = .ok (.bl false) S := (g_isTy (t := "int") rfl).trans rfl
  have h2 : gIsTy "bool" (.int a) S = .ok (.bl false) S := (g_isTy (t := "int") rfl).trans rfl
  have h3 : gIsTy "int" (.int a) S = .ok (.bl true) S := (g_isTy (t := "int") rfl).trans rfl
  simp [b_same, h1, h2, h3]
theorem g_eqBl {a b : Bool} : gEq (.bl a) (.bl b) S = .ok (.bl (decide (a = b))) S := by
  show gEqO false (.bl a) (.bl b) S = _
  rw [g_eqB (neg := false) (p := .bool a) (q := .bool b) (by simp [fuelD, toPy]) (by simp [fuelD, toPy]) (by simp [SeqAt.shaped, PyData.canLay0, PyData.depth]) (by simp [SeqAt.shaped, PyData.canLay0, PyData.depth])]
  cases a <;> cases b <;> rfl
theorem same_bl {n : Nat} {a : Bool} : f_same (n + 1) [.bl a, .bl a] S = .ok (.bl true) S := by
  refine fn_ret (S1 := S) ?_ ret_same
  have h1 : gIsTy "tuple" (.bl a) S = .ok (.bl false) S := (g_isTy (t := "bool") rfl).trans rfl
  have h2 : gIsTy "bool" (.bl a) S = .ok (.bl true) S := (g_isTy (t := "bool") rfl).trans rfl
  simp [b_same, h1, h2, g_eqBl]
theorem same_fr {n : Nat} {p q : Int} : f_same (n + 2) [fr p q, fr p q] S = .ok (.bl true) S := by
  refine fn_ret (S1 := S) ?_ ret_same
  have h1 : gIsTy "tuple" (fr p q) S = .ok (.bl true) S := (g_isTy (t := "tuple") rfl).trans rfl
  have er : mRng1 (mApp gLen (mCons (mV 1) mNil)) [some (fr p q), some (fr p q), none] S = .ok ⟨[], [.int 0, .int 1]⟩ S := by
    have h6 : small62 2 = true := by decide
    simp [mRng1, g_len2, gRng1, h6, rng, List.range, List.range.loop]
  have el : mLc (.nm 2) [2] (mRng1 (mApp gLen (mCons (mV 1) mNil))) mYes (mApp (f_same (n + 1)) (mCons (mOp gIx (mV 0) (mV 2)) (mCons (mOp gIx (mV 1) (mV 2)) mNil))) [some (fr p q), some (fr p q), none] S = .ok [.bl true, .bl true] S := by
    unfold mLc
    rw [er]
    simp [lcL, Src.ok, asg, mYes, noX, wipeS, same_int]
  simp [b_same, h1, g_len2, mL, el, gAll, boolsOf]
theorem f_told_eq {B : Nat} {p q : Int} (h : Fr B p q) : f_told [fr p q] S = .ok (.bl true) S := by
  have e1 : f_is_from_zero [fr p q] S = .ok (.bl (decide (0 ≤ p))) S := fn_ret (S1 := S) (by simp [b_is_from_zero, h.is]) ret_same
  have e2 : f_is_share [fr p q] S = .ok (.bl (decide (0 ≤ p) && decide (p ≤ q))) S := by
    refine fn_ret (S1 := S) ?_ ret_same
    by_cases h0 : 0 ≤ p <;> simp [b_is_share, e1, h0]
  refine fn_ret (S1 := S) ?_ ret_same
  have e3 : gIs false (.bl true) (.bl true) S = .ok (.bl true) S := id rfl
  by_cases h0 : 0 ≤ p <;> simp [b_told, e2, h0, h.is, e3, same_bl]
theorem f_quotient_eq {p q r s : Int} {B : Nat} (hB : B ≤ 4000) (hp : p.natAbs < 2 ^ B) (hq : q.natAbs < 2 ^ B) (hr : r.natAbs < 2 ^ B) (hs : s.natAbs < 2 ^ B) (n : q * r ≠ 0) : f_quotient [fr p q, fr r s] S = .ok (quo (p * s) (q * r)) S := by
  refine fn_ret (S1 := S) ?_ ret_same
  have q1 : mulOk p s = true := mulOk_of (m := B + 1) (n := B + 1) (pow_le hp (by omega)) (pow_le hs (by omega)) (by omega) (by omega) (by omega)
  have q2 : mulOk q r = true := mulOk_of (m := B + 1) (n := B + 1) (pow_le hq (by omega)) (pow_le hr (by omega)) (by omega) (by omega) (by omega)
  have l0 : (q * r).natAbs < 2 ^ 8999 := pow_le (mul_lt hq hr) (by omega)
  unfold quo
  by_cases h : q * r < 0
  · have el := f_low_eq (S := S) (a := -(p * s)) (b := -(q * r)) (by omega) (by rw [Int.natAbs_neg]; exact l0)
    simp [b_quotient, g_mul q1, g_mul q2, h, el]
  · have el := f_low_eq (S := S) (a := p * s) (b := q * r) (by omega) l0
    simp [b_quotient, g_mul q1, g_mul q2, h, el]
theorem same_lo {n : Nat} {a b : Int} : f_same (n + 2) [lo a b, lo a b] S = .ok (.bl true) S := same_fr
theorem same_quo {n : Nat} {a b : Int} : f_same (n + 2) [quo a b, quo a b] S = .ok (.bl true) S := by
  unfold quo
  split <;> exact same_fr
theorem f_worked_eq {B : Nat} {p q r s : Int} (hB : B ≤ 3000) (h : Fr B p q) (g : Fr B r s) : f_worked [fr p q, fr r s] S = .ok (.bl true) S := by
  refine fn_ret (S1 := S) ?_ ret_same
  have q1 : mulOk p s = true := mulOk_of (m := B + 1) (n := B + 1) (pow_le h.bp (by omega)) (pow_le g.bq (by omega)) (by omega) (by omega) (by omega)
  have q2 : mulOk r q = true := mulOk_of (m := B + 1) (n := B + 1) (pow_le g.bp (by omega)) (pow_le h.bq (by omega)) (by omega) (by omega) (by omega)
  have q3 : mulOk q s = true := mulOk_of (m := B + 1) (n := B + 1) (pow_le h.bq (by omega)) (pow_le g.bq (by omega)) (by omega) (by omega) (by omega)
  have q4 : mulOk p r = true := mulOk_of (m := B + 1) (n := B + 1) (pow_le h.bp (by omega)) (pow_le g.bp (by omega)) (by omega) (by omega) (by omega)
  have b0 : 0 < q * s := Int.mul_pos (by have := h.pos; omega) (by have := g.pos; omega)
  have l0 : (q * s).natAbs < 2 ^ 8999 := pow_le (mul_lt h.bq g.bq) (by omega)
  have e1 := f_plus_eq (S := S) (by omega) h g
  have e2 := f_less_eq (S := S) (by omega) h g
  have e3 := f_times_eq (S := S) (by omega) h g
  have e5 := f_compared_eq (S := S) (by omega) h g
  have c1 := f_low_eq (S := S) (a := p * s + r * q) b0 l0
  have c2 := f_low_eq (S := S) (a := p * s - r * q) b0 l0
  have c3 := f_low_eq (S := S) (a := p * r) b0 l0
  have o : ∀ a b : Int, (if a < b then (-1 : Int) else if b < a then 1 else 0) = (if decide (b < a) = true then 1 else 0) - (if decide (a < b) = true then 1 else 0) := fun a b => by
    by_cases h1 : a < b
    · have h2 : ¬ b < a := by omega
      simp [h1, h2]
    · by_cases h2 : b < a <;> simp [h1, h2]
  rw [o] at e5
  by_cases hr : r = 0
  · have hd : decide (r = 0) = true := decide_eq_true hr
    simp only [b_worked, List.map_cons, List.map_nil, List.length_cons, List.length_nil, List.replicate, List.cons_append, List.nil_append, Nat.reduceAdd, Nat.reduceSub, ev_Seq, ev_Asg, ev_Op, ev_C, v_0, v_1, v_2, v_3, bind_ok, bindR_ok, then_next, then_ret, ix_t0, ix_t1, g_mul q1, g_mul q2, g_mul q3, g_mul q4, List.set_cons_zero, List.set_cons_succ, ev_sIf, ev_Not, ev_Tru, ev_App, ev_Cons, ev_Nil, e1, e2, e3, c1, c2, c3, g_add, g_sub, same_lo, tru_bl, Bool.not_true, Bool.false_eq_true, if_false, ev_Pass, ev_And, ev_Tst, g_neI, isB_bl, hd, e5, g_gt, g_lt, g_intB, ev_Ret, same_int]
  · have e4 := f_over_eq (S := S) (by omega) h g hr
    have c4 := f_quotient_eq (S := S) (B := B) (by omega) h.bp h.bq g.bp g.bq (Int.mul_ne_zero (by have := h.pos; omega) hr)
    simp only [b_worked, List.map_cons, List.map_nil, List.length_cons, List.length_nil, List.replicate, List.cons_append, List.nil_append, Nat.reduceAdd, Nat.reduceSub, ev_Seq, ev_Asg, ev_Op, ev_C, v_0, v_1, v_2, v_3, bind_ok, bindR_ok, then_next, then_ret, ix_t0, ix_t1, g_mul q1, g_mul q2, g_mul q3, g_mul q4, List.set_cons_zero, List.set_cons_succ, ev_sIf, ev_Not, ev_Tru, ev_App, ev_Cons, ev_Nil, e1, e2, e3, e4, c1, c2, c3, c4, g_add, g_sub, same_lo, same_quo, tru_bl, Bool.not_true, Bool.false_eq_true, if_false, ev_Pass, ev_And, ev_Tst, g_neI, isB_bl, hr, decide_false, Bool.not_false, if_true, e5, g_gt, g_lt, g_intB, ev_Ret, same_int]
end MI.K01

set_option Elab.async false
set_option linter.all false
set_option maxRecDepth 100000
set_option maxHeartbeats 4000000
set_option exponentiation.threshold 10000
namespace MI.K01
open PySem PySem.Spec PyProof.Rows L2 MI
variable {S S1 S2 : Store}
/-! sums -/
abbrev frL (L : List (Int × Int)) : List D := L.map fun x => fr x.1 x.2
def addF (x y : Int × Int) : Int × Int := (loP (x.1 * y.2 + y.1 * x.2) (x.2 * y.2), loQ (x.1 * y.2 + y.1 * x.2) (x.2 * y.2))
def sumF (x : Int × Int) (L : List (Int × Int)) : Int × Int := L.foldl addF x
theorem srcOk {j : Nat} {xs : List D} (h : S[j]? = some (.lst xs)) : Src.ok ⟨[(j, xs)], xs⟩ S = true := by
  simp [Src.ok, cellIs, h, D.beqs_refl]
theorem srcOk' {j : Nat} {xs ys : List D} (h : S[j]? = some (.lst xs)) : Src.ok ⟨[(j, xs)], ys⟩ S = true := by
  simp [Src.ok, cellIs, h, D.beqs_refl]
theorem addF_fr {A : Nat} {x y : Int × Int} (h : Fr A x.1 x.2) (g : Fr 132 y.1 y.2) : Fr (A + 133) (addF x y).1 (addF x y).2 := by
  have b0 : 0 < x.2 * y.2 := Int.mul_pos (by have := h.pos; omega) (by have := g.pos; omega)
  exact lo_fr b0 (add_lt (m := A + 132) (mul_lt h.bp g.bq) (by rw [Int.mul_comm]; exact mul_lt h.bq g.bp)) (pow_le (mul_lt h.bq g.bq) (by omega))
theorem check_loop {j : Nat} {xs ys : List D} (hS : S[j]? = some (.lst xs)) {x : D} : ∀ (L : List (Int × Int)) (o : Option D), (∀ y ∈ L, Fr 132 y.1 y.2) → ∃ z, forL (.nm 1) (sExpr (mApp f_check_fraction (mCons (mV 1) (mNil)))) ⟨[(j, xs)], ys⟩ (frL L) [some x, o] S = .next [some x, z] S
  | [], o, _ => ⟨o, by simp [forL, srcOk' hS]⟩
  | y :: L, o, h => by
    obtain ⟨z, e⟩ := check_loop hS (x := x) (ys := ys) L (some (fr y.1 y.2)) fun y' hy => h y' (List.mem_cons_of_mem _ hy)
    refine ⟨z, ?_⟩
    have hc := (h y List.mem_cons_self).check (S := S)
    simp [forL, srcOk' hS, asg, hc]
    exact e
theorem total_loop {j : Nat} {xs ys : List D} (hS : S[j]? = some (.lst xs)) {x : D} : ∀ (L : List (Int × Int)) (a : Int × Int) (A : Nat) (o : Option D), Fr A a.1 a.2 → A + 133 * L.length ≤ 3000 → (∀ y ∈ L, Fr 132 y.1 y.2) →
    ∃ z, forL (.nm 2) (sAsg (.nm 1) (mApp f_added (mCons (mV 1) (mCons (mV 2) (mNil))))) ⟨[(j, xs)], ys⟩ (frL L) [some x, some (fr a.1 a.2), o] S = .next [some x, some (fr (sumF a L).1 (sumF a L).2), z] S
  | [], a, A, o, _, _, _ => ⟨o, by simp [forL, srcOk' hS, sumF]⟩
  | y :: L, a, A, o, ha, hl, h => by
    have hy := h y List.mem_cons_self
    rw [List.length_cons] at hl
    obtain ⟨z, e⟩ := total_loop hS (x := x) (ys := ys) L (addF a y) (A + 133) (some (fr y.1 y.2)) (addF_fr ha hy) (by omega) fun y' hy => h y' (List.mem_cons_of_mem _ hy)
    refine ⟨z, ?_⟩
    have hc := f_added_eq (S := S) (B := A + 132) (by omega) (ha.le (by omega)) (hy.le (by omega))
    have hc2 : f_added [fr a.1 a.2, fr y.1 y.2] S = .ok (fr (addF a y).1 (addF a y).2) S := hc
    simp [forL, srcOk' hS, asg, hc2]
    exact e
theorem sum_loop {j : Nat} {xs ys : List D} (hS : S[j]? = some (.lst xs)) {x : D} : ∀ (L : List (Int × Int)) (a : Int × Int) (A : Nat) (o o' : Option D), Fr A a.1 a.2 → A + 133 * L.length ≤ 3000 → (∀ y ∈ L, Fr 132 y.1 y.2) →
    ∃ z z', forL (.tp [.nm 2, .nm 3]) (sAsg (.nm 1) (mApp f_low (mCons (mOp gAdd (mOp gMul (mOp gIx (mV 1) (mC (.int 0))) (mV 3)) (mOp gMul (mV 2) (mOp gIx (mV 1) (mC (.int 1))))) (mCons (mOp gMul (mOp gIx (mV 1) (mC (.int 1))) (mV 3)) (mNil))))) ⟨[(j, xs)], ys⟩ (frL L) [some x, some (fr a.1 a.2), o, o'] S = .next [some x, some (fr (sumF a L).1 (sumF a L).2), z, z'] S
  | [], a, A, o, o', _, _, _ => ⟨o, o', by simp [forL, srcOk' hS, sumF]⟩
  | y :: L, a, A, o, o', ha, hl, h => by
    have hy := h y List.mem_cons_self
    rw [List.length_cons] at hl
    obtain ⟨z, z', e⟩ := sum_loop hS (x := x) (ys := ys) L (addF a y) (A + 133) (some (.int y.1)) (some (.int y.2)) (addF_fr ha hy) (by omega) fun y' hy => h y' (List.mem_cons_of_mem _ hy)
    refine ⟨z, z', ?_⟩
    have q1 : mulOk a.1 y.2 = true := mulOk_of (m := A + 1) (n := 132) (pow_le ha.bp (by omega)) hy.bq (by omega) (by omega)
    have q2 : mulOk y.1 a.2 = true := mulOk_of (m := 132) (n := A + 1) hy.bp (pow_le ha.bq (by omega)) (by omega) (by omega) (by omega)
    have q3 : mulOk a.2 y.2 = true := mulOk_of (m := A + 1) (n := 132) (pow_le ha.bq (by omega)) hy.bq (by omega) (by omega)
    have b0 : 0 < a.2 * y.2 := Int.mul_pos (by have := ha.pos; omega) (by have := hy.pos; omega)
    have hc : f_low [.int (a.1 * y.2 + y.1 * a.2), .int (a.2 * y.2)] S = .ok (fr (addF a y).1 (addF a y).2) S := f_low_eq b0 (pow_le (mul_lt ha.bq hy.bq) (by omega))
    simp [forL, srcOk' hS, asg, asgs, tupOf, g_mul q1, g_mul q2, g_mul q3, hc]
    exact e
theorem zero_fr : Fr 1 0 1 := ⟨by decide, by decide, by decide, by decide⟩
theorem srcR {j : Nat} {xs : List D} (hS : S[j]? = some (.lst xs)) : srcOf (.ref j) S = .ok ⟨[(j, xs)], xs⟩ S := by
  simp only [srcOf, hS]
theorem f_total_eq {j : Nat} {L : List (Int × Int)} (hS : S[j]? = some (.lst (frL L))) (hl : L.length ≤ 20) (h : ∀ y ∈ L, Fr 132 y.1 y.2) : f_total [.ref j] S = .ok (fr (sumF (0, 1) L).1 (sumF (0, 1) L).2) S := by
  obtain ⟨z, e⟩ := total_loop hS (x := .ref j) (ys := frL L) L (0, 1) 1 none zero_fr (by omega) h
  have e2 : sFor (.nm 2) (mSrc (mV 0)) (sAsg (.nm 1) (mApp f_added (mCons (mV 1) (mCons (mV 2) (mNil))))) [some (.ref j), some (.tup d_ZERO), none] S = .next [some (.ref j), some (fr (sumF (0, 1) L).1 (sumF (0, 1) L).2), z] S := by
    unfold sFor mSrc
    rw [v_0, bind_ok, srcR hS]
    exact e
  exact fn_ret (S1 := S) (by simp [b_total, e2]) ret_same
theorem f_sum_of_eq {j : Nat} {L : List (Int × Int)} (hS : S[j]? = some (.lst (frL L))) (hl : L.length ≤ 20) (h : ∀ y ∈ L, Fr 132 y.1 y.2) : f_sum_of [.ref j] S = .ok (fr (sumF (0, 1) L).1 (sumF (0, 1) L).2) S := by
  obtain ⟨z, e⟩ := check_loop hS (x := .ref j) (ys := frL L) L none h
  have e2 : sFor (.nm 1) (mSrc (mV 0)) (sExpr (mApp f_check_fraction (mCons (mV 1) (mNil)))) [some (.ref j), none] S = .next [some (.ref j), z] S := by
    unfold sFor mSrc
    rw [v_0, bind_ok, srcR hS]
    exact e
  exact fn_ret (S1 := S) (by simp [b_sum_of, e2, f_total_eq hS hl h]) ret_same
theorem f_sum_eq {j : Nat} {L : List (Int × Int)} (hS : S[j]? = some (.lst (frL L))) (hl : L.length ≤ 20) (h : ∀ y ∈ L, Fr 132 y.1 y.2) : f_sum [.ref j] S = .ok (fr (sumF (0, 1) L).1 (sumF (0, 1) L).2) S := by
  obtain ⟨z, z', e⟩ := sum_loop hS (x := .ref j) (ys := frL L) L (0, 1) 1 none none zero_fr (by omega) h
  have e2 : sFor (.tp [.nm 2, .nm 3]) (mSrc (mV 0)) (sAsg (.nm 1) (mApp f_low (mCons (mOp gAdd (mOp gMul (mOp gIx (mV 1) (mC (.int 0))) (mV 3)) (mOp gMul (mV 2) (mOp gIx (mV 1) (mC (.int 1))))) (mCons (mOp gMul (mOp gIx (mV 1) (mC (.int 1))) (mV 3)) (mNil))))) [some (.ref j), some (fr 0 1), none, none] S = .next [some (.ref j), some (fr (sumF (0, 1) L).1 (sumF (0, 1) L).2), z, z'] S := by
    unfold sFor mSrc
    rw [v_0, bind_ok, srcR hS]
    exact e
  exact fn_ret (S1 := S) (by simp [b_sum, g_tup, e2]) ret_same
end MI.K01

set_option Elab.async false
set_option linter.all false
set_option maxRecDepth 100000
set_option maxHeartbeats 4000000
set_option exponentiation.threshold 10000
namespace MI.K01
open PySem PySem.Spec PyProof.Rows L2 MI
variable {S S1 S2 : Store}
/-! what is no fraction -/
theorem shows_of {p : PyData} (h1 : p.showable = true) (h2 : p.leavesShort 1921 = true) (h3 : p.weight ≤ 8000) (h4 : p.depth ≤ 60) : shows p = true := by
  have h := PyData.shown_le 1921 (by decide) p h2
  have h5 : p.shown.length ≤ 16777216 := by
    have : (1921 + 2) * p.weight ≤ 1923 * 8000 := Nat.mul_le_mul (by decide) h3
    omega
  unfold shows
  rw [h1, decide_eq_true h5, decide_eq_true h4]
  rfl
theorem int_show {i : Int} (h : i.natAbs < 2 ^ 400) : i.natAbs.log2 < 1920 := Nat.lt_trans (log2_lt h (by decide)) (by decide)
theorem int_leaf {i : Int} (h : i.natAbs < 2 ^ 400) : (PyData.shown (.int i)).length ≤ 1921 := by
  have := int_text_len_1921 (int_show h)
  exact this
theorem wt {i : Int} (h : i.natAbs < 2 ^ 400) : (if i = 0 then 0 else i.natAbs.log2 + 1) ≤ 400 := by
  have := log2_lt h (by decide)
  split <;> omega
theorem py_pair {x y : D} {px py : PyData} (hx : toPy S 138 x = some px) (hy : toPy S 137 y = some py) : toPy S fuelD (.tup [x, y]) = some (.tuple [px, py]) := by
  have e1 : toPys S (136 + 1) [] = some [] := by rw [toPys]
  have e2 : toPys S (137 + 1) [y] = some [py] := by
    rw [toPys, hy]
    show (match some py, toPys S (136 + 1) [] with
      | some p, some ps => some (p :: ps)
      | _, _ => none) = _
    rw [e1]
  have e3 : toPys S (138 + 1) [x, y] = some [px, py] := by
    rw [toPys, hx]
    show (match some px, toPys S (137 + 1) [y] with
      | some p, some ps => some (p :: ps)
      | _, _ => none) = _
    rw [e2]
  show toPy S (139 + 1) (.tup [x, y]) = _
  rw [toPy]
  show (toPys S (138 + 1) [x, y]).map _ = _
  rw [e3]
  rfl
/-- built anew where its parts are built anew -/
theorem built_id {n : Nat} {d : D} {t : String} (h : tyName d S = some t) (h1 : isTy t "list" = false) (h2 : isTy t "tuple" = false) : f_built_anew (n + 1) [d] S = .ok d S := by
  refine fn_ret (S1 := S) ?_ ret_same
  have e1 := g_isTy (T := "list") h
  have e2 := g_isTy (T := "tuple") h
  rw [h1] at e1
  rw [h2] at e2
  simp [b_built_anew, e1, e2]
theorem built_loop {rec : List D → Store → Res D} {xs0 : List D} {d : D} : ∀ (xs : List D) (o : Option D), (∀ x ∈ xs, rec [x] S = .ok x S) → lcL (.nm 1) ⟨[], xs0⟩ mYes (mApp rec (mCons (mV 1) mNil)) [some d, o] xs S = .ok xs S
  | [], o, _ => id rfl
  | x :: xs, o, h => by
    have hx := h x List.mem_cons_self
    have ih := built_loop (rec := rec) (xs0 := xs0) (d := d) xs o fun y hy => h y (List.mem_cons_of_mem _ hy)
    unfold lcL
    simp [Src.ok, asg, mYes, noX, hx, ih]
theorem built_tup {n : Nat} {xs : List D} (hl : xs.length < 16000000) (h : ∀ x ∈ xs, f_built_anew n [x] S = .ok x S) : f_built_anew (n + 1) [.tup xs] S = .ok (.tup xs) S := by
  refine fn_ret (S1 := S) ?_ ret_same
  have e1 : gIsTy "list" (.tup xs) S = .ok (.bl false) S := (g_isTy (t := "tuple") rfl).trans rfl
  have e2 : gIsTy "tuple" (.tup xs) S = .ok (.bl true) S := (g_isTy (t := "tuple") rfl).trans rfl
  have e3 : mLc (.nm 1) [1] (mSrc (mV 0)) mYes (mApp (f_built_anew n) (mCons (mV 1) mNil)) [some (.tup xs), none] S = .ok xs S := by
    unfold mLc mSrc
    rw [v_0, bind_ok]
    show (if xs.length < 16000000 then _ else Res.no) = _
    rw [if_pos hl]
    exact built_loop xs none h
  simp [b_built_anew, e1, e2, mL, e3, gTupL]
/-- S2 holds what S holds, but for the cell at i -/
def Hold (S S2 : Store) (i : Nat) : Prop := S.length ≤ S2.length ∧ ∀ j c, S[j]? = some c → j ≠ i → S2[j]? = some c
theorem Hold.refl {i : Nat} : Hold S S i := ⟨Nat.le_refl _, fun _ _ h _ => h⟩
theorem Hold.trans {i : Nat} (a : Hold S S1 i) (b : Hold S1 S2 i) : Hold S S2 i := ⟨Nat.le_trans a.1 b.1, fun j c h n => b.2 j c (a.2 j c h n) n⟩
theorem JugT.hold {i n : Nat} (h : JugT S S1 i n) : Hold S S1 i := by
  refine ⟨?_, fun j c hc ne => h.get hc ne⟩
  obtain ⟨a, x, k, T, rfl, _⟩ := h
  simp
theorem Hold.app {i : Nat} {T : Store} : Hold S (S ++ T) i := ⟨by simp, fun j c h _ => by rw [List.getElem?_append_left (List.getElem?_eq_some_iff.mp h).1]; exact h⟩
/-- no fraction, and how it is built anew and shown -/
def BadAt (S : Store) (i : Nat) (d : D) : Prop := ∃ p, shows p = true ∧ ∀ S2, Hold S S2 i → f_is_fraction [d] S2 = .ok (.bl false) S2 ∧ reprP S2 d = some p ∧ ∃ d' T, f_built_anew 8 [d] S2 = .ok d' (S2 ++ T) ∧ (T = [] ∨ below S2.length d' = false) ∧ ∀ U, reprP (S2 ++ T ++ U) d' = some p
theorem BadAt.on {i : Nat} {d : D} (h : BadAt S i d) (g : Hold S S1 i) : BadAt S1 i d := by
  obtain ⟨p, hp, h⟩ := h
  exact ⟨p, hp, fun S2 k => h S2 (g.trans k)⟩
/-- a thing that is the same in all stores -/
theorem bad_plain {i : Nat} {d : D} {p : PyData} (hp : shows p = true) (hf : ∀ S2, f_is_fraction [d] S2 = .ok (.bl false) S2) (hr : ∀ S2, reprP S2 d = some p) (hb : ∀ S2, f_built_anew 8 [d] S2 = .ok d S2) : BadAt S i d :=
  ⟨p, hp, fun S2 _ => ⟨hf S2, hr S2, d, [], by rw [List.append_nil]; exact hb S2, .inl rfl, fun U => hr _⟩⟩
theorem nofr_type {d : D} {t : String} (h : tyName d S = some t) (h2 : isTy t "tuple" = false) : f_is_fraction [d] S = .ok (.bl false) S := by
  refine fn_ret (S1 := S) ?_ ret_same
  have e2 := g_isTy (T := "tuple") h
  rw [h2] at e2
  simp [b_is_fraction, e2]
theorem nofr_len {xs : List D} (h : xs.length ≠ 2) : f_is_fraction [.tup xs] S = .ok (.bl false) S := by
  refine fn_ret (S1 := S) ?_ ret_same
  have h1 : gIsTy "tuple" (.tup xs) S = .ok (.bl true) S := (g_isTy (t := "tuple") rfl).trans rfl
  have h2 : ¬ (xs.length : Int) = 2 := by omega
  simp [b_is_fraction, h1, g_len2, h2]
theorem int_of_type {d : D} {t : String} (h : tyName d S = some t) : f_is_integer [d] S = .ok (.bl (isTy t "int" && !isTy t "bool")) S := by
  refine fn_ret (S1 := S) ?_ ret_same
  have e1 := g_isTy (T := "int") h
  have e2 := g_isTy (T := "bool") h
  by_cases c : isTy t "int" = true <;> simp [b_is_integer, e1, e2, c]
theorem nofr_first {x y : D} {t : String} (h : tyName x S = some t) (h2 : (isTy t "int" && !isTy t "bool") = false) : f_is_fraction [.tup [x, y]] S = .ok (.bl false) S := by
  refine fn_ret (S1 := S) ?_ ret_same
  have h1 : gIsTy "tuple" (.tup [x, y]) S = .ok (.bl true) S := (g_isTy (t := "tuple") rfl).trans rfl
  have e := int_of_type h
  rw [h2] at e
  simp [b_is_fraction, h1, g_len2, e]
theorem nofr_second {a : Int} {y : D} {t : String} (h : tyName y S = some t) (h2 : (isTy t "int" && !isTy t "bool") = false) : f_is_fraction [.tup [.int a, y]] S = .ok (.bl false) S := by
  refine fn_ret (S1 := S) ?_ ret_same
  have h1 : gIsTy "tuple" (.tup [.int a, y]) S = .ok (.bl true) S := (g_isTy (t := "tuple") rfl).trans rfl
  have e := int_of_type h
  rw [h2] at e
  simp [b_is_fraction, h1, g_len2, f_is_integer_int, e]
end MI.K01

set_option Elab.async false
set_option linter.all false
set_option maxRecDepth 100000
set_option maxHeartbeats 4000000
set_option exponentiation.threshold 10000
namespace MI.K01
open PySem PySem.Spec PyProof.Rows L2 MI
variable {S S1 S2 : Store}
theorem repr_of {d : D} {p : PyData} (h : toPy S fuelD d = some p) : reprP S d = some p := by
  unfold reprP
  rw [h]
section
variable {i : Nat} {a b : Int}
theorem built_int {n : Nat} {a : Int} : f_built_anew (n + 1) [.int a] S = .ok (.int a) S := built_id (t := "int") rfl rfl rfl
theorem built_two {n : Nat} {x y : D} (hx : f_built_anew n [x] S = .ok x S) (hy : f_built_anew n [y] S = .ok y S) : f_built_anew (n + 1) [.tup [x, y]] S = .ok (.tup [x, y]) S := built_tup (by simp) fun z hz => by
  rcases List.mem_cons.mp hz with rfl | hz
  · exact hx
  · rcases List.mem_cons.mp hz with rfl | hz
    · exact hy
    · cases hz
theorem bad_pair (ha : a.natAbs < 2 ^ 400) (hb : b.natAbs < 2 ^ 400) (h : ¬ (1 ≤ b ∧ Nat.gcd a.natAbs b.natAbs = 1)) : BadAt S i (fr a b) := by
  refine bad_plain (p := .tuple [.int a, .int b]) (shows_of ?_ ?_ ?_ ?_) (fun S2 => ?_) (fun S2 => repr_of py_fr) fun S2 => built_two built_int built_int
  · simp [PyData.showable, PyData.showableAll, int_show ha, int_show hb]
  · simp [PyData.leavesShort, PyData.leavesShortAll, int_leaf ha, int_leaf hb]
  · simp [PyData.weight, PyData.weightAll]; have := wt ha; have := wt hb; omega
  · simp [PyData.depth, PyData.depthAll]
  · rw [f_is_fraction_fr]
    by_cases c : 1 ≤ b
    · have : ¬ Nat.gcd a.natAbs b.natAbs = 1 := fun z => h ⟨c, z⟩
      simp [this]
    · simp [c]
theorem bad_one (ha : a.natAbs < 2 ^ 400) : BadAt S i (.tup [.int a]) := by
  refine bad_plain (p := .tuple [.int a]) (shows_of ?_ ?_ ?_ ?_) (fun S2 => nofr_len (by simp)) (fun S2 => repr_of (by simp [fuelD, toPy, toPys])) fun S2 => built_tup (by simp) fun z hz => by
    rcases List.mem_cons.mp hz with rfl | hz
    · exact built_int
    · cases hz
  · simp [PyData.showable, PyData.showableAll, int_show ha]
  · simp [PyData.leavesShort, PyData.leavesShortAll, int_leaf ha]
  · simp [PyData.weight, PyData.weightAll]; have := wt ha; omega
  · simp [PyData.depth, PyData.depthAll]
theorem bad_three (ha : a.natAbs < 2 ^ 400) (hb : b.natAbs < 2 ^ 400) : BadAt S i (.tup [.int a, .int b, .int 1]) := by
  refine bad_plain (p := .tuple [.int a, .int b, .int 1]) (shows_of ?_ ?_ ?_ ?_) (fun S2 => nofr_len (by simp)) (fun S2 => repr_of (by simp [fuelD, toPy, toPys])) fun S2 => built_tup (by simp) fun z hz => by
    simp only [List.mem_cons, List.not_mem_nil, or_false] at hz
    rcases hz with rfl | rfl | rfl <;> exact built_int
  · simp [PyData.showable, PyData.showableAll, int_show ha, int_show hb, show Nat.log2 1 < 1920 by decide]
  · simp [PyData.leavesShort, PyData.leavesShortAll, int_leaf ha, int_leaf hb, int_leaf (show (1 : Int).natAbs < 2 ^ 400 by decide)]
  · simp [PyData.weight, PyData.weightAll]; have := wt ha; have := wt hb; have : Nat.log2 1 = 0 := (by decide); omega
  · simp [PyData.depth, PyData.depthAll]
theorem bad_unit : BadAt S i (.tup []) := by
  refine bad_plain (p := .tuple []) (shows_of ?_ ?_ ?_ ?_) (fun S2 => nofr_len (by simp)) (fun S2 => repr_of (by simp [fuelD, toPy, toPys])) fun S2 => built_tup (by simp) fun z hz => by cases hz
  · simp [PyData.showable, PyData.showableAll]
  · simp [PyData.leavesShort, PyData.leavesShortAll]
  · simp [PyData.weight, PyData.weightAll]
  · simp [PyData.depth, PyData.depthAll]
/-- a pair whose first part is x -/
theorem bad_first {x : D} {px : PyData} {t : String} (hb : b.natAbs < 2 ^ 400) (ht : ∀ S2, tyName x S2 = some t) (h2 : (isTy t "int" && !isTy t "bool") = false) (hx : ∀ S2, toPy S2 138 x = some px)
    (s1 : px.showable = true) (s2 : px.leavesShort 1921 = true) (s3 : px.weight ≤ 900) (s4 : px.depth ≤ 20) (hn : ∀ S2, f_built_anew 7 [x] S2 = .ok x S2): BadAt S i (.tup [x, .int b]) := by
  refine bad_plain (p := .tuple [px, .int b]) (shows_of ?_ ?_ ?_ ?_) (fun S2 => nofr_first (ht S2) h2) (fun S2 => repr_of (py_pair (hx S2) (by simp [toPy]))) fun S2 => built_two (hn S2) built_int
  · simp [PyData.showable, PyData.showableAll, s1, int_show hb]
  · simp [PyData.leavesShort, PyData.leavesShortAll, s2, int_leaf hb]
  · simp [PyData.weight, PyData.weightAll]; have := wt hb; omega
  · simp [PyData.depth, PyData.depthAll]; omega
theorem bad_true (hb : b.natAbs < 2 ^ 400) : BadAt S i (.tup [.bl true, .int b]) :=
  bad_first (t := "bool") (px := .bool true) hb (fun _ => rfl) rfl (fun _ => by simp [toPy]) (by simp [PyData.showable]) (by simp [PyData.leavesShort]) (by simp [PyData.weight]) (by simp [PyData.depth]) (fun S2 => built_id (t := "bool") rfl rfl rfl)
theorem bad_none (hb : b.natAbs < 2 ^ 400) : BadAt S i (.tup [.non, .int b]) :=
  bad_first (t := "NoneType") (px := .none) hb (fun _ => rfl) rfl (fun _ => by simp [toPy]) (by simp [PyData.showable]) (by simp [PyData.leavesShort]) (by simp [PyData.weight]) (by simp [PyData.depth]) (fun S2 => built_id (t := "NoneType") rfl rfl rfl)
theorem bad_deep {p q : Int} (hb : b.natAbs < 2 ^ 400) (hp : p.natAbs < 2 ^ 400) (hq : q.natAbs < 2 ^ 400) : BadAt S i (.tup [fr p q, .int b]) :=
  bad_first (t := "tuple") (px := .tuple [.int p, .int q]) hb (fun _ => rfl) rfl (fun _ => by simp [toPy, toPys]) (by simp [PyData.showable, PyData.showableAll, int_show hp, int_show hq]) (by simp [PyData.leavesShort, PyData.leavesShortAll, int_leaf hp, int_leaf hq])
    (by simp [PyData.weight, PyData.weightAll]; have := wt hp; have := wt hq; omega) (by simp [PyData.depth, PyData.depthAll]) (fun S2 => built_two built_int built_int)
theorem bad_second {y : D} {py : PyData} {t : String} (ha : a.natAbs < 2 ^ 400) (ht : ∀ S2, tyName y S2 = some t) (h2 : (isTy t "int" && !isTy t "bool") = false) (hx : ∀ S2, toPy S2 137 y = some py)
    (s1 : py.showable = true) (s2 : py.leavesShort 1921 = true) (s3 : py.weight ≤ 900) (s4 : py.depth ≤ 20) (hn : ∀ S2, f_built_anew 7 [y] S2 = .ok y S2) : BadAt S i (.tup [.int a, y]) := by
  refine bad_plain (p := .tuple [.int a, py]) (shows_of ?_ ?_ ?_ ?_) (fun S2 => nofr_second (ht S2) h2) (fun S2 => repr_of (py_pair (by simp [toPy]) (hx S2))) fun S2 => built_two built_int (hn S2)
  · simp [PyData.showable, PyData.showableAll, s1, int_show ha]
  · simp [PyData.leavesShort, PyData.leavesShortAll, s2, int_leaf ha]
  · simp [PyData.weight, PyData.weightAll]; have := wt ha; omega
  · simp [PyData.depth, PyData.depthAll]; omega
theorem bad_true2 (ha : a.natAbs < 2 ^ 400) : BadAt S i (.tup [.int a, .bl true]) :=
  bad_second (t := "bool") (py := .bool true) ha (fun _ => rfl) rfl (fun _ => by simp [toPy]) (by simp [PyData.showable]) (by simp [PyData.leavesShort]) (by simp [PyData.weight]) (by simp [PyData.depth]) (fun S2 => built_id (t := "bool") rfl rfl rfl)
theorem bad_str2 {s : Str} (ha : a.natAbs < 2 ^ 400) (hs : (PyData.str s).leavesShort 1921 = true) (hw : (PyData.str s).weight ≤ 20) : BadAt S i (.tup [.int a, .str s]) :=
  bad_second (t := "str") (py := .str s) ha (fun _ => rfl) rfl (fun _ => by simp [toPy]) (by simp [PyData.showable]) hs (by omega) (by simp [PyData.depth]) (fun S2 => built_id (t := "str") rfl rfl rfl)
/-- a thing without parts -/
theorem bad_atom {d : D} {p : PyData} {t : String} (ht : ∀ S2, tyName d S2 = some t) (h1 : isTy t "list" = false) (h2 : isTy t "tuple" = false) (hx : ∀ S2, toPy S2 fuelD d = some p) (hp : shows p = true) : BadAt S i d :=
  bad_plain hp (fun S2 => nofr_type (ht S2) h2) (fun S2 => repr_of (hx S2)) fun S2 => built_id (ht S2) h1 h2
theorem bad_int (ha : a.natAbs < 2 ^ 400) : BadAt S i (.int a) := bad_atom (t := "int") (p := .int a) (fun _ => rfl) rfl rfl (fun _ => by simp [fuelD, toPy]) (shows_of (by simp [PyData.showable, int_show ha]) (by simp [PyData.leavesShort, int_leaf ha]) (by simp [PyData.weight]; have := wt ha; omega) (by simp [PyData.depth]))
theorem bad_bl {c : Bool} : BadAt S i (.bl c) := bad_atom (t := "bool") (p := .bool c) (fun _ => rfl) rfl rfl (fun _ => by simp [fuelD, toPy]) (shows_of (by simp [PyData.showable]) (by simp [PyData.leavesShort]) (by simp [PyData.weight]) (by simp [PyData.depth]))
theorem bad_non : BadAt S i .non := bad_atom (t := "NoneType") (p := .none) (fun _ => rfl) rfl rfl (fun _ => by simp [fuelD, toPy]) (shows_of (by simp [PyData.showable]) (by simp [PyData.leavesShort]) (by simp [PyData.weight]) (by simp [PyData.depth]))
theorem bad_str {s : Str} (hs : (PyData.str s).leavesShort 1921 = true) (hw : (PyData.str s).weight ≤ 20) : BadAt S i (.str s) := bad_atom (t := "str") (p := .str s) (fun _ => rfl) rfl rfl (fun _ => by simp [fuelD, toPy]) (shows_of (by simp [PyData.showable]) hs (by omega) (by simp [PyData.depth]))
/-! lists and dicts -/
theorem ret_new {k : Nat} {xs : List D} (hk : S.length ≤ k) (h : S1[k]? = some (.lst xs)) (b : belows S.length xs = true) (kp : keeps S.length S S1 = true) : retOf S (.ref k) S1 = .ok (.ref S.length) (S1.take S.length ++ [.lst xs]) := by
  have nb : ¬ below S.length (.ref k) = true := by simp [below]; omega
  unfold retOf
  rw [if_pos kp, if_neg nb]
  simp only [h, b, if_true]
theorem built_list {n k : Nat} {xs : List D} (hk : S[k]? = some (.lst xs)) (hl : xs.length < 16000000) (hb : belows S.length xs = true) (h : ∀ x ∈ xs, f_built_anew n [x] S = .ok x S) : f_built_anew (n + 1) [.ref k] S = .ok (.ref S.length) (S ++ [.lst xs]) := by
  have e1 : gIsTy "list" (.ref k) S = .ok (.bl true) S := (g_isTy (t := "list") (by simp [tyName, hk])).trans rfl
  have go : ∀ (ys : List D) (o : Option D), (∀ x ∈ ys, f_built_anew n [x] S = .ok x S) → lcL (.nm 1) ⟨[(k, xs)], xs⟩ mYes (mApp (f_built_anew n) (mCons (mV 1) mNil)) [some (.ref k), o] ys S = .ok ys S := by
    intro ys
    induction ys with
    | nil => intro o _; unfold lcL; simp [srcOk' hk]
    | cons y ys ih =>
      intro o hy
      have hx := hy y List.mem_cons_self
      have ih' := ih o fun z hz => hy z (List.mem_cons_of_mem _ hz)
      unfold lcL
      simp [srcOk' hk, asg, mYes, noX, hx]
      rw [ih']
      rfl
  have e3 : mLc (.nm 1) [1] (mSrc (mV 0)) mYes (mApp (f_built_anew n) (mCons (mV 1) mNil)) [some (.ref k), none] S = .ok xs S := by
    unfold mLc mSrc
    rw [v_0, bind_ok, srcR hk]
    show (if xs.length < 16000000 then _ else Res.no) = _
    rw [if_pos hl]
    exact go xs none h
  refine fn_ret (S1 := S ++ [.lst xs]) (d := .ref S.length) ?_ ((ret_new (Nat.le_refl _) (by simp) hb keeps_app).trans (by rw [List.take_left]))
  simp [b_built_anew, e1, mBox, e3]
theorem Hold.at {k : Nat} {c : Cell} (h : Hold S S2 i) (hk : S[k]? = some c) (ne : k ≠ i) : S2[k]? = some c := h.2 k c hk ne
theorem bad_list {k : Nat} {ns : List Int} (hk : S[k]? = some (.lst (ns.map D.int))) (ne : k ≠ i) (hl : ns.length ≤ 2) (hn : ∀ z ∈ ns, z.natAbs < 2 ^ 400) : BadAt S i (.ref k) := by
  have py : ∀ (S2 : Store) (j : Nat), S2[j]? = some (.lst (ns.map D.int)) → reprP S2 (.ref j) = some (.list (ns.map PyData.int)) := fun S2 j hj => by
    refine repr_of ?_
    match ns, hl with
    | [], _ => simp [fuelD, toPy, toPys] at hj ⊢; rw [hj]; simp [toPys]
    | [a], _ => simp [fuelD, toPy, toPys] at hj ⊢; rw [hj]; simp [toPy, toPys]
    | [a, b], _ => simp [fuelD, toPy, toPys] at hj ⊢; rw [hj]; simp [toPy, toPys]
  refine ⟨.list (ns.map PyData.int), ?_, fun S2 h => ⟨nofr_type (t := "list") (by simp [tyName, h.at hk ne]) rfl, py _ _ (h.at hk ne), .ref S2.length, [.lst (ns.map D.int)], built_list (n := 7) (h.at hk ne) (by simp; omega) ?_ fun x hx => ?_, .inr (by simp [below]), fun U => py _ _ (by simp)⟩⟩
  · match ns, hl, hn with
    | [], _, _ => exact shows_of (by simp [PyData.showable, PyData.showableAll]) (by simp [PyData.leavesShort, PyData.leavesShortAll]) (by simp [PyData.weight, PyData.weightAll]) (by simp [PyData.depth, PyData.depthAll])
    | [a], _, hn =>
      have ha := hn a (by simp)
      exact shows_of (by simp [PyData.showable, PyData.showableAll, int_show ha]) (by simp [PyData.leavesShort, PyData.leavesShortAll, int_leaf ha]) (by simp [PyData.weight, PyData.weightAll]; have := wt ha; omega) (by simp [PyData.depth, PyData.depthAll])
    | [a, b], _, hn =>
      have ha := hn a (by simp)
      have hb := hn b (by simp)
      exact shows_of (by simp [PyData.showable, PyData.showableAll, int_show ha, int_show hb]) (by simp [PyData.leavesShort, PyData.leavesShortAll, int_leaf ha, int_leaf hb]) (by simp [PyData.weight, PyData.weightAll]; have := wt ha; have := wt hb; omega) (by simp [PyData.depth, PyData.depthAll])
  · clear hk py hl hn
    induction ns with
    | nil => rfl
    | cons z ns ih => simp [belows, below, ih]
  · obtain ⟨z, _, rfl⟩ := List.mem_map.mp hx
    exact built_int
theorem bad_dict {k : Nat} {kvs : List (Key × D)} {ps : List (PyData × PyData)} (hk : S[k]? = some (.dct kvs)) (ne : k ≠ i) (hf : flatKvs kvs = some ps) (hp : shows (.dict ps) = true) : BadAt S i (.ref k) := by
  have py : ∀ S2 : Store, S2[k]? = some (.dct kvs) → reprP S2 (.ref k) = some (.dict ps) := fun S2 hj => by
    unfold reprP
    simp [fuelD, toPy, hj, flatD, hf]
  refine ⟨.dict ps, hp, fun S2 h => ⟨nofr_type (t := "dict") (by simp [tyName, h.at hk ne]) rfl, py _ (h.at hk ne), .ref k, [], by rw [List.append_nil]; exact built_id (t := "dict") (by simp [tyName, h.at hk ne]) rfl rfl, .inl rfl, fun U => py _ ?_⟩⟩
  rw [List.append_nil]
  exact (h.trans Hold.app).at hk ne
/-- ([a], b) -/
theorem bad_inner {k : Nat} (hk : S[k]? = some (.lst [.int a])) (ne : k ≠ i) (ha : a.natAbs < 2 ^ 400) (hb : b.natAbs < 2 ^ 400) : BadAt S i (.tup [.ref k, .int b]) := by
  have py : ∀ (S2 : Store) (j : Nat), S2[j]? = some (.lst [.int a]) → reprP S2 (.tup [.ref j, .int b]) = some (.tuple [.list [.int a], .int b]) := fun S2 j hj => by
    refine repr_of ?_
    simp [fuelD, toPy, toPys, hj]
  refine ⟨.tuple [.list [.int a], .int b], shows_of (by simp [PyData.showable, PyData.showableAll, int_show ha, int_show hb]) (by simp [PyData.leavesShort, PyData.leavesShortAll, int_leaf ha, int_leaf hb]) (by simp [PyData.weight, PyData.weightAll]; have := wt ha; have := wt hb; omega) (by simp [PyData.depth, PyData.depthAll]),
    fun S2 h => ⟨nofr_first (t := "list") (by simp [tyName, h.at hk ne]) rfl, py _ _ (h.at hk ne), .tup [.ref S2.length, .int b], [.lst [.int a]], ?_, .inr (by simp [below, belows]), fun U => py _ _ (by simp)⟩⟩
  have e0 := built_list (n := 6) (h.at hk ne) (by simp) (by simp [belows, below]) fun x hx => by
    rcases List.mem_cons.mp hx with rfl | hx
    · exact built_int
    · cases hx
  have e1 : gIsTy "list" (.tup [.ref k, .int b]) S2 = .ok (.bl false) S2 := (g_isTy (t := "tuple") rfl).trans rfl
  have e2 : gIsTy "tuple" (.tup [.ref k, .int b]) S2 = .ok (.bl true) S2 := (g_isTy (t := "tuple") rfl).trans rfl
  have e3 : mLc (.nm 1) [1] (mSrc (mV 0)) mYes (mApp (f_built_anew 7) (mCons (mV 1) mNil)) [some (.tup [.ref k, .int b]), none] S2 = .ok [.ref S2.length, .int b] (S2 ++ [.lst [.int a]]) := by
    have e4 : ∀ S', f_built_anew 7 [.int b] S' = .ok (.int b) S' := fun S' => built_int
    unfold mLc mSrc
    rw [v_0, bind_ok]
    show (if 2 < 16000000 then _ else Res.no) = _
    rw [if_pos (by decide)]
    unfold lcL
    simp [Src.ok, asg, mYes, noX, e0, wipeS]
    unfold lcL
    simp [Src.ok, asg, mYes, noX, e4, wipeS, lcL]
  refine fn_ret (S1 := S2 ++ [.lst [.int a]]) (d := .tup [.ref S2.length, .int b]) ?_ ?_
  · simp [b_built_anew, e1, e2, mL, e3, gTupL]
  · unfold retOf
    rw [if_pos keeps_app, if_neg (by simp [below, belows])]
end
end MI.K01

set_option Elab.async false
set_option linter.all false
set_option maxRecDepth 100000
set_option maxHeartbeats 4000000
set_option exponentiation.threshold 10000
namespace MI.K01
open PySem PySem.Spec PyProof.Rows L2 MI
variable {S S1 S2 : Store}
theorem g_cat {a b : Nat} {xs ys : List D} (ha : S[a]? = some (.lst xs)) (hb : S[b]? = some (.lst ys)) (hl : xs.length + ys.length ≤ 16777216) : gAdd (.ref a) (.ref b) S = .ok (.ref S.length) (S ++ [.lst (xs ++ ys)]) := by
  unfold gAdd
  simp only [ha, hb]
  exact if_pos hl
theorem get_last {c : Cell} : (S ++ [c])[S.length]? = some c := by simp
theorem get_more {k : Nat} {c : Cell} {T : Store} (h : S[k]? = some c) : (S ++ T)[k]? = some c := by
  rw [List.getElem?_append_left (List.getElem?_eq_some_iff.mp h).1]
  exact h
/-- a result that is one new list -/
theorem ret_jugL {i n k : Nat} {xs : List D} (h : JugT S S1 i n) (hk : S.length ≤ k) (hx : S1[k]? = some (.lst xs)) (b : belows S.length xs = true) : ∃ S2, retOf S (.ref k) S1 = .ok (.ref S.length) S2 ∧ JugT S S2 i n ∧ S2[S.length]? = some (.lst xs) := by
  obtain ⟨a, x, c, T, e, h1⟩ := h
  have kp : keeps S.length S S1 = true := by rw [e]; exact keeps_set (by simp [cellBelow, belows, below])
  have tk : S1.take S.length = S.set i (.lst [.int a, .int x, .int c]) := by
    rw [e, List.take_append_of_le_length (by simp), List.take_of_length_le (by simp)]
  refine ⟨_, ret_new hk hx b kp, ⟨a, x, c, [.lst xs], by rw [tk], h1⟩, ?_⟩
  rw [tk]
  have : (S.set i (.lst [.int a, .int x, .int c])).length = S.length := by simp
  rw [← this]
  exact get_last
theorem ret_raw {d : D} (hb : below S.length d = false) (hl : ∀ k xs, d = .ref k → S1[k]? ≠ some (.lst xs)) : retOf S d S1 = .ok d S1 := by
  unfold retOf
  split
  · rw [if_neg (by rw [hb]; decide)]
    split
    · rename_i k
      split
      · rename_i xs h
        exact absurd h (hl k xs rfl)
      · rfl
    · rfl
  · rfl
theorem gcd_mul_ne {p q m : Int} (h : Nat.gcd p.natAbs q.natAbs = 1) (hm : 2 ≤ m) : ¬ (1 ≤ q * m ∧ Nat.gcd (p * m).natAbs (q * m).natAbs = 1) := by
  rintro ⟨_, e⟩
  rw [Int.natAbs_mul, Int.natAbs_mul, Nat.gcd_mul_right, h, Nat.one_mul] at e
  omega
theorem f_odd_eq {i n : Nat} {p q : Int} (h : JugAt S i n) (hn : n < 700000) (hf : Fr 132 p q) : ∃ (d : D) (S1 : Store), f_odd [.ref i, fr p q] S = .ok d S1 ∧ JugT S S1 i (n + 2) ∧ BadAt S1 i d := by
  have hi := h.lt
  obtain ⟨m0, J, em, m1, m2, jj⟩ := f_drop_eq (m := 9) (by decide) (by decide) h (by omega)
  have q1 : mulOk p (2 + m0) = true := mulOk_of (m := 132) (n := 10) hf.bp (by omega) (by decide)
  have q2 : mulOk q (2 + m0) = true := mulOk_of (m := 132) (n := 10) hf.bq (by omega) (by decide)
  have hp : p.natAbs < 2 ^ 400 := pow_le hf.bp (by decide)
  have hq : q.natAbs < 2 ^ 400 := pow_le hf.bq (by decide)
  have hpm : (p * (2 + m0)).natAbs < 2 ^ 400 := pow_le (mul_lt (m := 132) (n := 10) hf.bp (by omega)) (by decide)
  have hqm : (q * (2 + m0)).natAbs < 2 ^ 400 := pow_le (mul_lt (m := 132) (n := 10) hf.bq (by omega)) (by decide)
  have tu : ∃ t, t = [fr (p * (2 + m0)) (q * (2 + m0)), fr p 0, fr p (0 - q), .tup [.int p], .tup [.int p, .int q, .int 1], .tup []] := ⟨_, rfl⟩
  obtain ⟨tu, htu⟩ := tu
  obtain ⟨T0, hT0⟩ : ∃ T, T = J ++ [.lst tu] := ⟨_, rfl⟩
  obtain ⟨T1, hT1⟩ : ∃ T, T = T0 ++ [.lst [.int p]] := ⟨_, rfl⟩
  obtain ⟨wr, hwr⟩ : ∃ t : List D, t = [.tup [.bl true, .int q], .tup [.int p, .bl true], .tup [.non, .int 1], .tup [.int p, .str "2"], .tup [fr p q, .int 1], .tup [.ref T0.length, .int q]] := ⟨_, rfl⟩
  obtain ⟨T2, hT2⟩ : ∃ T, T = T1 ++ [.lst wr] := ⟨_, rfl⟩
  obtain ⟨T3, hT3⟩ : ∃ T, T = T2 ++ [.lst [.int p, .int q]] := ⟨_, rfl⟩
  obtain ⟨T4, hT4⟩ : ∃ T, T = T3 ++ [.dct [(.inr "above", .int p)]] := ⟨_, rfl⟩
  obtain ⟨T5, hT5⟩ : ∃ T, T = T4 ++ [.lst []] := ⟨_, rfl⟩
  obtain ⟨T6, hT6⟩ : ∃ T, T = T5 ++ [.dct []] := ⟨_, rfl⟩
  obtain ⟨ot, hot⟩ : ∃ t : List D, t = [.ref T2.length, .int p, .bl true, .non, .str "1/2", .ref T3.length, .ref T4.length, .ref T5.length, .str ""] := ⟨_, rfl⟩
  obtain ⟨T7, hT7⟩ : ∃ T, T = T6 ++ [.lst ot] := ⟨_, rfl⟩
  obtain ⟨T8, hT8⟩ : ∃ T, T = T7 ++ [.lst (tu ++ wr)] := ⟨_, rfl⟩
  obtain ⟨T9, hT9⟩ : ∃ T, T = T8 ++ [.lst (tu ++ wr ++ ot)] := ⟨_, rfl⟩
  -- where the lists lie
  have a0 : T0[J.length]? = some (.lst tu) := by rw [hT0]; exact get_last
  have a2 : T2[T1.length]? = some (.lst wr) := by rw [hT2]; exact get_last
  have b1 : T1[T0.length]? = some (.lst [.int p]) := by rw [hT1]; exact get_last
  have b3 : T3[T2.length]? = some (.lst [.int p, .int q]) := by rw [hT3]; exact get_last
  have b4 : T4[T3.length]? = some (.dct [(.inr "above", .int p)]) := by rw [hT4]; exact get_last
  have b5 : T5[T4.length]? = some (.lst []) := by rw [hT5]; exact get_last
  have b6 : T6[T5.length]? = some (.dct []) := by rw [hT6]; exact get_last
  have a7 : T7[T6.length]? = some (.lst ot) := by rw [hT7]; exact get_last
  have a8 : T8[T7.length]? = some (.lst (tu ++ wr)) := by rw [hT8]; exact get_last
  have a9 : T9[T8.length]? = some (.lst (tu ++ wr ++ ot)) := by rw [hT9]; exact get_last
  have up1 : ∀ {k : Nat} {c : Cell}, T0[k]? = some c → T1[k]? = some c := fun h => by rw [hT1]; exact get_more h
  have up2 : ∀ {k : Nat} {c : Cell}, T1[k]? = some c → T2[k]? = some c := fun h => by rw [hT2]; exact get_more h
  have up3 : ∀ {k : Nat} {c : Cell}, T2[k]? = some c → T3[k]? = some c := fun h => by rw [hT3]; exact get_more h
  have up4 : ∀ {k : Nat} {c : Cell}, T3[k]? = some c → T4[k]? = some c := fun h => by rw [hT4]; exact get_more h
  have up5 : ∀ {k : Nat} {c : Cell}, T4[k]? = some c → T5[k]? = some c := fun h => by rw [hT5]; exact get_more h
  have up6 : ∀ {k : Nat} {c : Cell}, T5[k]? = some c → T6[k]? = some c := fun h => by rw [hT6]; exact get_more h
  have up7 : ∀ {k : Nat} {c : Cell}, T6[k]? = some c → T7[k]? = some c := fun h => by rw [hT7]; exact get_more h
  have up8 : ∀ {k : Nat} {c : Cell}, T7[k]? = some c → T8[k]? = some c := fun h => by rw [hT8]; exact get_more h
  have up9 : ∀ {k : Nat} {c : Cell}, T8[k]? = some c → T9[k]? = some c := fun h => by rw [hT9]; exact get_more h
  have lJ : J.length = S.length := jj.len
  have l0 : T0.length = S.length + 1 := by rw [hT0]; simp [lJ]
  have l1 : T1.length = S.length + 2 := by rw [hT1]; simp [l0]
  have l2 : T2.length = S.length + 3 := by rw [hT2]; simp [l1]
  have l3 : T3.length = S.length + 4 := by rw [hT3]; simp [l2]
  have l4 : T4.length = S.length + 5 := by rw [hT4]; simp [l3]
  have l5 : T5.length = S.length + 6 := by rw [hT5]; simp [l4]
  have l6 : T6.length = S.length + 7 := by rw [hT6]; simp [l5]
  have l7 : T7.length = S.length + 8 := by rw [hT7]; simp [l6]
  have l8 : T8.length = S.length + 9 := by rw [hT8]; simp [l7]
  have j9 : JugT S T9 i (n + 1) := by
    rw [hT9, hT8, hT7, hT6, hT5, hT4, hT3, hT2, hT1, hT0]
    exact (((((((((jj.t.more _).more _).more _).more _).more _).more _).more _).more _).more _).more _
  -- the adding
  have c8 : gAdd (.ref J.length) (.ref T1.length) T7 = .ok (.ref T7.length) T8 := by
    rw [hT8]
    exact g_cat (up7 (up6 (up5 (up4 (up3 (up2 (up1 a0))))))) (up7 (up6 (up5 (up4 (up3 a2))))) (by rw [htu, hwr]; simp)
  have c9 : gAdd (.ref T7.length) (.ref T6.length) T8 = .ok (.ref T8.length) T9 := by
    rw [hT9]
    exact g_cat a8 (up8 a7) (by rw [htu, hwr, hot]; simp)
  have g21 : gLen [.ref T8.length] T9 = .ok (.int 21) T9 := by
    unfold gLen seqOf
    simp only [a9]
    rw [htu, hwr, hot]
    rfl
  obtain ⟨r, U, er, r0, r1, j10, jU⟩ := drop_t (m := 21) (by decide) (by decide) j9 hi (by omega)
  have aU : U[T8.length]? = some (.lst (tu ++ wr ++ ot)) := jU.get a9 (by omega)
  -- the run
  have run : ∀ d, L2.atI (tu ++ wr ++ ot) r = some d → b_odd [some (.ref i), some (fr p q), none, none, none, none, none, none, none] S = .ret d U := fun d hd => by
    have e1 : mApp gLst (mCons (mApp gTup (mCons (mOp gMul (mV 3) (mV 2)) (mCons (mOp gMul (mV 4) (mV 2)) (mNil)))) (mCons (mApp gTup (mCons (mV 3) (mCons (mC (.int 0)) (mNil)))) (mCons (mApp gTup (mCons (mV 3) (mCons (mOp gSub (mC (.int 0)) (mV 4)) (mNil)))) (mCons (mApp gTup (mCons (mV 3) (mNil))) (mCons (mApp gTup (mCons (mV 3) (mCons (mV 4) (mCons (mC (.int 1)) (mNil))))) (mCons (mApp gTup (mNil)) (mNil)))))))
        [some (.ref i), some (fr p q), some (.int (2 + m0)), some (.int p), some (.int q), none, none, none, none] J = .ok (.ref J.length) T0 := by
      simp [g_mul q1, g_mul q2, g_tup, g_lst, hT0, htu]
    have e2 : mApp gLst (mCons (mApp gTup (mCons (mC (.bl true)) (mCons (mV 4) (mNil)))) (mCons (mApp gTup (mCons (mV 3) (mCons (mC (.bl true)) (mNil)))) (mCons (mApp gTup (mCons (mC .non) (mCons (mC (.int 1)) (mNil)))) (mCons (mApp gTup (mCons (mV 3) (mCons (mC (.str "2")) (mNil)))) (mCons (mApp gTup (mCons (mApp gTup (mCons (mV 3) (mCons (mV 4) (mNil)))) (mCons (mC (.int 1)) (mNil)))) (mCons (mApp gTup (mCons (mApp gLst (mCons (mV 3) (mNil))) (mCons (mV 4) (mNil)))) (mNil)))))))
        [some (.ref i), some (fr p q), some (.int (2 + m0)), some (.int p), some (.int q), some (.ref J.length), none, none, none] T0 = .ok (.ref T1.length) T2 := by
      simp [g_tup, g_lst, ← hT1, hT2, hwr]
    have e3 : mApp gLst (mCons (mApp gLst (mCons (mV 3) (mCons (mV 4) (mNil)))) (mCons (mV 3) (mCons (mC (.bl true)) (mCons (mC .non) (mCons (mC (.str "1/2")) (mCons (mDict [("above", mV 3)]) (mCons (mApp gLst (mNil)) (mCons (mDict0) (mCons (mC (.str "")) (mNil))))))))))
        [some (.ref i), some (fr p q), some (.int (2 + m0)), some (.int p), some (.int q), some (.ref J.length), some (.ref T1.length), none, none] T2 = .ok (.ref T6.length) T7 := by
      have ed : ∀ {ρ : Sl} {S' : Store}, mV 3 ρ S' = .ok (.int p) S' → mDict [("above", mV 3)] ρ S' = .ok (.ref S'.length) (S' ++ [.dct [(.inr "above", .int p)]]) := fun {ρ S'} e => by
        unfold mDict mPrs
        rw [e]
        rfl
      have ed0 : ∀ {ρ : Sl} {S' : Store}, mDict0 ρ S' = .ok (.ref S'.length) (S' ++ [.dct []]) := rfl
      simp only [ev_App, ev_Cons, ev_Nil, v_3, v_4, ev_C, bind_ok, g_lst (show [D.int p, D.int q].length ≤ 16777216 by simp), ← hT3, ed v_3, ← hT4, g_lst (show ([] : List D).length ≤ 16777216 by simp), ← hT5, ed0, ← hT6]
      rw [g_lst (by simp), ← hot, ← hT7]
    have ea : sAsg (.tp [.nm 3, .nm 4]) (mV 1) [some (.ref i), some (fr p q), some (.int (2 + m0)), none, none, none, none, none, none] J = .next [some (.ref i), some (fr p q), some (.int (2 + m0)), some (.int p), some (.int q), none, none, none, none] J := rfl
    have ei : gIx (.ref T8.length) (.int r) U = .ok d U := ix_r aU hd
    simp only [b_odd, ev_Seq, ev_Asg, ev_Op, ev_C, v_0, bind_ok, bindR_ok, ev_Cons, ev_Nil, then_next, List.set_cons_zero, List.set_cons_succ, ev_App (m := mCons (mV 0) (mCons (mC (.int 9)) mNil)), em, g_add, ea, e1, e2, e3, v_5, v_6, v_7, c8, c9, ev_Ret, v_8, ev_App, g21, er, ei]
  have fin : ∀ d, L2.atI (tu ++ wr ++ ot) r = some d → ∀ {d' S'}, retOf S d U = .ok d' S' → f_odd [.ref i, fr p q] S = .ok d' S' := fun d hd {d' S'} e => fn_ret (run d hd) e
  have plain : ∀ d, L2.atI (tu ++ wr ++ ot) r = some d → below S.length d = true → (∀ S1, BadAt S1 i d) → ∃ (d : D) (S1 : Store), f_odd [.ref i, fr p q] S = .ok d S1 ∧ JugT S S1 i (n + 2) ∧ BadAt S1 i d := fun d hd hb hbad => by
    obtain ⟨S2, e, j⟩ := ret_jug j10 hb
    exact ⟨d, S2, fin d hd e, j.t, hbad S2⟩
  have hnq : (0 - q).natAbs < 2 ^ 400 := by
    have : (0 - q).natAbs = q.natAbs := by omega
    rw [this]; exact hq
  have one400 : (1 : Int).natAbs < 2 ^ 400 := by decide
  have hr : r = 0 ∨ r = 1 ∨ r = 2 ∨ r = 3 ∨ r = 4 ∨ r = 5 ∨ r = 6 ∨ r = 7 ∨ r = 8 ∨ r = 9 ∨ r = 10 ∨ r = 11 ∨ r = 12 ∨ r = 13 ∨ r = 14 ∨ r = 15 ∨ r = 16 ∨ r = 17 ∨ r = 18 ∨ r = 19 ∨ r = 20 := by omega
  have q0 := hf.pos
  have key : ∀ (k : Nat) (d : D), r = k → (tu ++ wr ++ ot)[k]? = some d → L2.atI (tu ++ wr ++ ot) r = some d := fun k d e h => by rw [e]; exact atI_nat h
  rcases hr with e | e | e | e | e | e | e | e | e | e | e | e | e | e | e | e | e | e | e | e | e
  · exact plain _ (key 0 _ e (by rw [htu]; rfl)) (by simp [below, belows]) fun S1 => bad_pair hpm hqm (gcd_mul_ne hf.low (by omega))
  · exact plain _ (key 1 _ e (by rw [htu]; rfl)) (by simp [below, belows]) fun S1 => bad_pair hp (by decide) (by omega)
  · exact plain _ (key 2 _ e (by rw [htu]; rfl)) (by simp [below, belows]) fun S1 => bad_pair hp hnq (by omega)
  · exact plain _ (key 3 _ e (by rw [htu]; rfl)) (by simp [below, belows]) fun S1 => bad_one hp
  · exact plain _ (key 4 _ e (by rw [htu]; rfl)) (by simp [below, belows]) fun S1 => bad_three hp hq
  · exact plain _ (key 5 _ e (by rw [htu]; rfl)) (by simp [below, belows]) fun S1 => bad_unit
  · exact plain _ (key 6 _ e (by rw [htu, hwr]; rfl)) (by simp [below, belows]) fun S1 => bad_true hq
  · exact plain _ (key 7 _ e (by rw [htu, hwr]; rfl)) (by simp [below, belows]) fun S1 => bad_true2 hp
  · exact plain _ (key 8 _ e (by rw [htu, hwr]; rfl)) (by simp [below, belows]) fun S1 => bad_none one400
  · exact plain _ (key 9 _ e (by rw [htu, hwr]; rfl)) (by simp [below, belows]) fun S1 => bad_str2 hp (by decide +kernel) (by decide +kernel)
  · exact plain _ (key 10 _ e (by rw [htu, hwr]; rfl)) (by simp [below, belows]) fun S1 => bad_deep one400 hp hq
  · have hd := key 11 (.tup [.ref T0.length, .int q]) e (by rw [htu, hwr]; rfl)
    have hU : U[T0.length]? = some (.lst [.int p]) := jU.get (up9 (up8 (up7 (up6 (up5 (up4 (up3 (up2 b1)))))))) (by omega)
    exact ⟨_, U, fin _ hd (ret_raw (by simp [below, belows]; omega) fun k xs z => by cases z), j10, bad_inner hU (by omega) hp hq⟩
  · have hd := key 12 (.ref T2.length) e (by rw [htu, hwr, hot]; rfl)
    have hU : U[T2.length]? = some (.lst [.int p, .int q]) := jU.get (up9 (up8 (up7 (up6 (up5 (up4 b3)))))) (by omega)
    obtain ⟨S2, e2, j2, h2⟩ := ret_jugL j10 (k := T2.length) (by omega) hU (by simp [belows, below])
    exact ⟨_, S2, fin _ hd e2, j2, bad_list (ns := [p, q]) h2 (by omega) (by simp) fun z hz => by
      simp only [List.mem_cons, List.not_mem_nil, or_false] at hz
      rcases hz with rfl | rfl
      · exact hp
      · exact hq⟩
  · exact plain _ (key 13 _ e (by rw [htu, hwr, hot]; rfl)) (by simp [below]) fun S1 => bad_int hp
  · exact plain _ (key 14 _ e (by rw [htu, hwr, hot]; rfl)) (by simp [below]) fun S1 => bad_bl
  · exact plain _ (key 15 _ e (by rw [htu, hwr, hot]; rfl)) (by simp [below]) fun S1 => bad_non
  · exact plain _ (key 16 _ e (by rw [htu, hwr, hot]; rfl)) (by simp [below]) fun S1 => bad_str (by decide +kernel) (by decide +kernel)
  · have hd := key 17 (.ref T3.length) e (by rw [htu, hwr, hot]; rfl)
    have hU : U[T3.length]? = some (.dct [(.inr "above", .int p)]) := jU.get (up9 (up8 (up7 (up6 (up5 b4))))) (by omega)
    exact ⟨_, U, fin _ hd (ret_raw (by simp [below]; omega) fun k xs z => by cases z; rw [hU]; simp), j10, bad_dict hU (by omega) (ps := [(.str "above", .int p)]) rfl (shows_of (by simp [PyData.showable, PyData.showableKv, int_show hp]) (by simp [PyData.leavesShort, PyData.leavesShortKv, int_leaf hp]; decide +kernel) (by
      have := wt hp
      simp [PyData.weight, PyData.weightKv]
      have e5 : (Str.ofString "above").cps.size = 5 := by decide +kernel
      rw [e5]
      omega) (by simp [PyData.depth, PyData.depthKv]))⟩
  · have hd := key 18 (.ref T4.length) e (by rw [htu, hwr, hot]; rfl)
    have hU : U[T4.length]? = some (.lst []) := jU.get (up9 (up8 (up7 (up6 b5)))) (by omega)
    obtain ⟨S2, e2, j2, h2⟩ := ret_jugL j10 (k := T4.length) (by omega) hU (by simp [belows])
    exact ⟨_, S2, fin _ hd e2, j2, bad_list (ns := []) h2 (by omega) (by simp) fun z hz => by cases hz⟩
  · have hd := key 19 (.ref T5.length) e (by rw [htu, hwr, hot]; rfl)
    have hU : U[T5.length]? = some (.dct []) := jU.get (up9 (up8 (up7 b6))) (by omega)
    exact ⟨_, U, fin _ hd (ret_raw (by simp [below]; omega) fun k xs z => by cases z; rw [hU]; simp), j10, bad_dict hU (by omega) (ps := []) rfl (shows_of (by simp [PyData.showable, PyData.showableKv]) (by simp [PyData.leavesShort, PyData.leavesShortKv]) (by simp [PyData.weight, PyData.weightKv]) (by simp [PyData.depth, PyData.depthKv]))⟩
  · exact plain _ (key 20 _ e (by rw [htu, hwr, hot]; rfl)) (by simp [below]) fun S1 => bad_str (by decide +kernel) (by decide +kernel)
end MI.K01

set_option Elab.async false
set_option linter.all false
set_option maxRecDepth 100000
set_option maxHeartbeats 4000000
set_option exponentiation.threshold 10000
namespace MI.K01
open PySem PySem.Spec PyProof.Rows L2 MI
variable {S S1 S2 : Store}
/-! what is raised -/
/-- c with a value that is shown as p, in what is S and more -/
structure Rz (S : Store) (c : Str) (p : PyData) (r : Res D) : Prop where
  is : ∃ d T, r = .exc c d (S ++ T) ∧ (T = [] ∨ below S.length d = false) ∧ ∀ U, reprP (S ++ T ++ U) d = some p
theorem exc_app {c : Str} {d : D} {T : Store} (h : T = [] ∨ below S.length d = false) : excOf S c d (S ++ T) = .exc c d (S ++ T) := by
  unfold excOf
  rcases h with rfl | h
  · rw [List.append_nil]
    split
    · rw [List.take_of_length_le (Nat.le_refl _)]
    · rfl
  · rw [if_neg (by rw [h]; simp)]
/-- a def that raises what is raised in it -/
theorem fn_rz {n : Nat} {b : MS} {ds : List D} {c : Str} {p : PyData} {r : Res D} (h : Rz S c p r) (e : ∀ d S', r = .exc c d S' → ∃ ρ, b (ds.map some ++ List.replicate (n - ds.length) none) S = .exc c d ρ S') : Rz S c p (fnOf n b ds S) := by
  obtain ⟨d, T, h1, h2, h3⟩ := h.is
  obtain ⟨ρ, e1⟩ := e d _ h1
  exact ⟨d, T, fn_exc e1 (exc_app h2), h2, h3⟩
/-- the thing is no fraction, and what is told of it is p -/
def BadP (S : Store) (i : Nat) (d : D) (p : PyData) : Prop := shows p = true ∧ ∀ S2, Hold S S2 i → f_is_fraction [d] S2 = .ok (.bl false) S2 ∧ reprP S2 d = some p ∧ ∃ d' T, f_built_anew 8 [d] S2 = .ok d' (S2 ++ T) ∧ (T = [] ∨ below S2.length d' = false) ∧ ∀ U, reprP (S2 ++ T ++ U) d' = some p
theorem BadAt.p {i : Nat} {d : D} (h : BadAt S i d) : ∃ p, BadP S i d p := h
theorem BadP.on {i : Nat} {d : D} {p : PyData} (h : BadP S i d p) (g : Hold S S1 i) : BadP S1 i d p := ⟨h.1, fun S2 k => h.2 S2 (g.trans k)⟩
section
variable {i : Nat} {x y : D} {p : PyData} {B : Nat} {a b : Int}
theorem BadP.check (h : BadP S i x p) : Rz S "InvalidFraction" p (f_check_fraction [x] S) := by
  obtain ⟨h1, h2, d', T, h3, h4, h5⟩ := h.2 S Hold.refl
  refine ⟨d', T, fn_exc (ρ := [some x]) (S1 := S ++ T) ?_ (exc_app h4), h4, h5⟩
  simp [b_check_fraction, h1, h3]
/-- the five of two fractions, and the sum -/
theorem two_first {b2 : MS} {k : MS} (hb : b2 = sSeq (sExpr (mApp f_check_fraction (mCons (mV 0) (mNil)))) k) (h : BadP S i x p) : Rz S "InvalidFraction" p (fnOf 2 b2 [x, y] S) :=
  fn_rz h.check fun d S' e => ⟨[some x, some y], by rw [hb]; simp [e]⟩
theorem two_second {b2 : MS} {k : MS} (hb : b2 = sSeq (sExpr (mApp f_check_fraction (mCons (mV 0) (mNil)))) (sSeq (sExpr (mApp f_check_fraction (mCons (mV 1) (mNil)))) k)) (hx : Fr B a b) (h : BadP S i y p) : Rz S "InvalidFraction" p (fnOf 2 b2 [fr a b, y] S) :=
  fn_rz h.check fun d S' e => ⟨[some (fr a b), some y], by rw [hb]; simp [e, hx.check]⟩
/-- one of two is none: the first such -/
inductive Two (S : Store) (i : Nat) (p : PyData) : D → D → Prop
  | fst {x y : D} (h : BadP S i x p) : Two S i p x y
  | snd {a b : Int} {y : D} (hx : Fr 132 a b) (h : BadP S i y p) : Two S i p (fr a b) y
theorem Two.on (h : Two S i p x y) (g : Hold S S1 i) : Two S1 i p x y := by
  cases h with
  | fst h => exact .fst (h.on g)
  | snd hx h => exact .snd hx (h.on g)
theorem Two.rz {b2 : MS} {k : MS} (hb : b2 = sSeq (sExpr (mApp f_check_fraction (mCons (mV 0) (mNil)))) (sSeq (sExpr (mApp f_check_fraction (mCons (mV 1) (mNil)))) k)) (h : Two S i p x y) : Rz S "InvalidFraction" p (fnOf 2 b2 [x, y] S) := by
  cases h with
  | fst h => exact two_first hb h
  | snd hx h => exact two_second hb hx h
/-- going over a list up to the first that is none -/
theorem check_bad {j : Nat} {xs ys : List D} (hS : S[j]? = some (.lst xs)) {w z : D} {rest : List D} (h : BadP S i z p) : ∀ (L : List (Int × Int)) (o : Option D), (∀ y ∈ L, Fr 132 y.1 y.2) → ∃ ρ d T, forL (.nm 1) (sExpr (mApp f_check_fraction (mCons (mV 1) (mNil)))) ⟨[(j, xs)], ys⟩ (frL L ++ z :: rest) [some w, o] S = .exc "InvalidFraction" d ρ (S ++ T) ∧ (T = [] ∨ below S.length d = false) ∧ ∀ U, reprP (S ++ T ++ U) d = some p
  | [], o, _ => by
    obtain ⟨d, T, e, e2, e3⟩ := h.check.is
    refine ⟨[some w, some z], d, T, ?_, e2, e3⟩
    simp [forL, srcOk' hS, asg, e]
  | y :: L, o, hl => by
    obtain ⟨ρ, d, T, e, e2⟩ := check_bad hS (w := w) (ys := ys) (rest := rest) h L (some (fr y.1 y.2)) fun y' hy => hl y' (List.mem_cons_of_mem _ hy)
    refine ⟨ρ, d, T, ?_, e2⟩
    have hc := (hl y List.mem_cons_self).check (S := S)
    simp [forL, srcOk' hS, asg, hc]
    exact e
theorem sum_bad {j : Nat} {L : List (Int × Int)} {z : D} {rest : List D} (hS : S[j]? = some (.lst (frL L ++ z :: rest))) (hl : ∀ y ∈ L, Fr 132 y.1 y.2) (h : BadP S i z p) : Rz S "InvalidFraction" p (f_sum_of [.ref j] S) := by
  obtain ⟨ρ, d, T, e, e2, e3⟩ := check_bad hS (w := .ref j) (ys := frL L ++ z :: rest) (rest := rest) h L none hl
  have e4 : sFor (.nm 1) (mSrc (mV 0)) (sExpr (mApp f_check_fraction (mCons (mV 1) (mNil)))) [some (.ref j), none] S = .exc "InvalidFraction" d ρ (S ++ T) := by
    unfold sFor mSrc
    rw [v_0, bind_ok, srcR hS]
    exact e
  refine ⟨d, T, fn_exc (ρ := ρ) (S1 := S ++ T) ?_ (exc_app e2), e2, e3⟩
  simp [b_sum_of, e4]
/-! catching -/
/-- what lies behind a caught error: the place k, in what is S and more -/
theorem sum_two {j : Nat} {L : List (Int × Int)} (hS : S[j]? = some (.lst (frL L))) (hj : j ≠ i) (hl : ∀ y ∈ L, Fr 132 y.1 y.2) (hL : L.length ≤ 20) (h : Two S i p x y) :
    ∃ d T, sExpr (mApp f_sum_of (mCons (mOp gAdd (mOp gAdd (mOp gAdd (mV 3) (mApp gLst (mCons (mV 1) (mNil)))) (mV 3)) (mApp gLst (mCons (mV 2) (mNil)))) (mNil))) [some (.int 5), some x, some y, some (.ref j), some .non, none] S = .exc "InvalidFraction" d [some (.int 5), some x, some y, some (.ref j), some .non, none] (S ++ T) ∧ ∀ U, reprP (S ++ T ++ U) d = some p := by
  obtain ⟨T1, hT1⟩ : ∃ T, T = S ++ [.lst [x]] := ⟨_, rfl⟩
  obtain ⟨T2, hT2⟩ : ∃ T, T = T1 ++ [.lst (frL L ++ [x])] := ⟨_, rfl⟩
  obtain ⟨T3, hT3⟩ : ∃ T, T = T2 ++ [.lst (frL L ++ [x] ++ frL L)] := ⟨_, rfl⟩
  obtain ⟨T4, hT4⟩ : ∃ T, T = T3 ++ [.lst [y]] := ⟨_, rfl⟩
  obtain ⟨T5, hT5⟩ : ∃ T, T = T4 ++ [.lst (frL L ++ [x] ++ frL L ++ [y])] := ⟨_, rfl⟩
  have a1 : T1[S.length]? = some (.lst [x]) := by rw [hT1]; exact get_last
  have j1 : T1[j]? = some (.lst (frL L)) := by rw [hT1]; exact get_more hS
  have a2 : T2[T1.length]? = some (.lst (frL L ++ [x])) := by rw [hT2]; exact get_last
  have j2 : T2[j]? = some (.lst (frL L)) := by rw [hT2]; exact get_more j1
  have a3 : T3[T2.length]? = some (.lst (frL L ++ [x] ++ frL L)) := by rw [hT3]; exact get_last
  have a3' : T4[T2.length]? = some (.lst (frL L ++ [x] ++ frL L)) := by rw [hT4]; exact get_more a3
  have a4 : T4[T3.length]? = some (.lst [y]) := by rw [hT4]; exact get_last
  have a5 : T5[T4.length]? = some (.lst (frL L ++ [x] ++ frL L ++ [y])) := by rw [hT5]; exact get_last
  have lL : (frL L).length ≤ 20 := by simpa using hL
  have g1 : gAdd (.ref j) (.ref S.length) T1 = .ok (.ref T1.length) T2 := by rw [hT2]; exact g_cat j1 a1 (by simp; omega)
  have g2 : gAdd (.ref T1.length) (.ref j) T2 = .ok (.ref T2.length) T3 := by rw [hT3]; exact g_cat a2 j2 (by simp; omega)
  have g3 : gAdd (.ref T2.length) (.ref T3.length) T4 = .ok (.ref T4.length) T5 := by rw [hT5]; exact g_cat a3' a4 (by simp; omega)
  have e5 : T5 = S ++ ([.lst [x]] ++ [.lst (frL L ++ [x])] ++ [.lst (frL L ++ [x] ++ frL L)] ++ [.lst [y]] ++ [.lst (frL L ++ [x] ++ frL L ++ [y])]) := by
    rw [hT5, hT4, hT3, hT2, hT1]; simp
  have hold : Hold S T5 i := by rw [e5]; exact Hold.app
  have rz : Rz T5 "InvalidFraction" p (f_sum_of [.ref T4.length] T5) := by
    cases h with
    | fst h =>
      have a6 : T5[T4.length]? = some (.lst (frL L ++ x :: (frL L ++ [y]))) := by rw [a5]; simp
      exact sum_bad a6 hl (h.on hold)
    | @snd a b y hx h =>
      have a6 : T5[T4.length]? = some (.lst (frL (L ++ [(a, b)] ++ L) ++ y :: [])) := by rw [a5]; simp
      refine sum_bad a6 (fun z hz => ?_) (h.on hold)
      simp only [List.mem_append, List.mem_cons, List.not_mem_nil, or_false] at hz
      rcases hz with (hz | rfl) | hz
      · exact hl z hz
      · exact hx
      · exact hl z hz
  obtain ⟨d, T, e1, _, e3⟩ := rz.is
  rw [e5] at e1 e3
  refine ⟨d, [.lst [x]] ++ [.lst (frL L ++ [x])] ++ [.lst (frL L ++ [x] ++ frL L)] ++ [.lst [y]] ++ [.lst (frL L ++ [x] ++ frL L ++ [y])] ++ T, ?_, fun U => by rw [← List.append_assoc S]; exact e3 U⟩
  simp only [ev_Expr, ev_App, ev_Cons, ev_Nil, ev_Op, v_1, v_2, v_3, bind_ok, g_lst (show [x].length ≤ 16777216 by simp), ← hT1, g1, g2, g_lst (show [y].length ≤ 16777216 by simp), ← hT4, g3]
  rw [← e5] at e1
  rw [e1, bindR_exc, e5, List.append_assoc]
end
end MI.K01

set_option Elab.async false
set_option linter.all false
set_option maxRecDepth 100000
set_option maxHeartbeats 4000000
set_option exponentiation.threshold 10000
namespace MI.K01
open PySem PySem.Spec PyProof.Rows L2 MI
variable {S S1 S2 : Store}
def cbody : MS := (sIf (mTst (mOp gEq (mV 0) (mC (.int 0)))) (sExpr (mApp f_plus (mCons (mV 1) (mCons (mV 2) (mNil))))) (sIf (mTst (mOp gEq (mV 0) (mC (.int 1)))) (sExpr (mApp f_less (mCons (mV 1) (mCons (mV 2) (mNil))))) (sIf (mTst (mOp gEq (mV 0) (mC (.int 2)))) (sExpr (mApp f_times (mCons (mV 1) (mCons (mV 2) (mNil))))) (sIf (mTst (mOp gEq (mV 0) (mC (.int 3)))) (sExpr (mApp f_over (mCons (mV 1) (mCons (mV 2) (mNil))))) (sIf (mTst (mOp gEq (mV 0) (mC (.int 4)))) (sExpr (mApp f_compared (mCons (mV 1) (mCons (mV 2) (mNil))))) (sIf (mTst (mOp gEq (mV 0) (mC (.int 5)))) (sExpr (mApp f_sum_of (mCons (mOp gAdd (mOp gAdd (mOp gAdd (mV 3) (mApp gLst (mCons (mV 1) (mNil)))) (mV 3)) (mApp gLst (mCons (mV 2) (mNil)))) (mNil)))) (sExpr (mApp f_fraction (mCons (mV 1) (mCons (mV 2) (mNil)))))))))))
theorem b_caught_is : b_caught = sSeq (sAsg (.nm 4) (mC .non)) (sSeq (sTry cat_CaskError 5 cbody (sAsg (.nm 4) (mV 5))) (sRet (mV 4))) := rfl
section
variable {i j : Nat} {x y : D} {p : PyData} {a b : Int} {w : Int}
abbrev csl (w : Int) (x y : D) (j : Nat) : Sl := [some (.int w), some x, some y, some (.ref j), some .non, none]
theorem caught_exc {c : Str} {d : D} {T : Store} (hc : c ∈ errNames) (h : cbody (csl w x y j) S = .exc c d (csl w x y j) (S ++ T)) : f_caught [.int w, x, y, .ref j] S = .ok (.ref (S ++ T).length) (S ++ T ++ [.exc c d]) := by
  refine fn_ret (S1 := S ++ T ++ [.exc c d]) (d := .ref (S ++ T).length) ?_ (ret_raw (by simp [below]) fun k xs z => ?_)
  · rw [b_caught_is]
    have hcat : cat_CaskError c = some true := if_pos hc
    have ht : sTry cat_CaskError 5 cbody (sAsg (.nm 4) (mV 5)) (csl w x y j) S = .next [some (.int w), some x, some y, some (.ref j), some (.ref (S ++ T).length), none] (S ++ T ++ [.exc c d]) := by
      unfold sTry
      rw [h]
      show (match cat_CaskError c with
        | some true => _
        | some false => _
        | none => SR.no) = _
      rw [hcat]
      rfl
    simp only [List.map_cons, List.map_nil, List.length_cons, List.length_nil, List.replicate, List.cons_append, List.nil_append, Nat.reduceAdd, Nat.reduceSub, ev_Seq, ev_Asg, ev_C, bindR_ok, then_next, List.set_cons_zero, List.set_cons_succ, ht, ev_Ret, v_4]
  · cases z
    rw [get_last]
    simp
theorem caught_none (h : cbody (csl w x y j) S = .next (csl w x y j) S) : f_caught [.int w, x, y, .ref j] S = .ok .non S := by
  refine fn_ret (S1 := S) (d := .non) ?_ ret_same
  rw [b_caught_is]
  have ht : sTry cat_CaskError 5 cbody (sAsg (.nm 4) (mV 5)) (csl w x y j) S = .next (csl w x y j) S := by
    unfold sTry
    rw [h]
  simp only [List.map_cons, List.map_nil, List.length_cons, List.length_nil, List.replicate, List.cons_append, List.nil_append, Nat.reduceAdd, Nat.reduceSub, ev_Seq, ev_Asg, ev_C, bindR_ok, then_next, List.set_cons_zero, List.set_cons_succ, ht, ev_Ret, v_4]
theorem expr_rz {f : List D → Store → Res D} {c : Str} (h : Rz S c p (f [x, y] S)) : ∃ d T, sExpr (mApp f (mCons (mV 1) (mCons (mV 2) (mNil)))) (csl w x y j) S = .exc c d (csl w x y j) (S ++ T) ∧ ∀ U, reprP (S ++ T ++ U) d = some p := by
  obtain ⟨d, T, e, _, h3⟩ := h.is
  exact ⟨d, T, by simp [e], h3⟩
theorem body_two {L : List (Int × Int)} (hS : S[j]? = some (.lst (frL L))) (hj : j ≠ i) (hl : ∀ y ∈ L, Fr 132 y.1 y.2) (hL : L.length ≤ 20) (w0 : 0 ≤ w) (w6 : w < 6) (h : Two S i p x y) :
    ∃ d T, cbody (csl w x y j) S = .exc "InvalidFraction" d (csl w x y j) (S ++ T) ∧ ∀ U, reprP (S ++ T ++ U) d = some p := by
  have hw : w = 0 ∨ w = 1 ∨ w = 2 ∨ w = 3 ∨ w = 4 ∨ w = 5 := by omega
  rcases hw with rfl | rfl | rfl | rfl | rfl | rfl
  · obtain ⟨d, T, e, k⟩ := expr_rz (w := 0) (j := j) (f := f_plus) (h.rz rfl)
    exact ⟨d, T, by rw [← e]; simp [cbody], k⟩
  · obtain ⟨d, T, e, k⟩ := expr_rz (w := 1) (j := j) (f := f_less) (h.rz rfl)
    exact ⟨d, T, by rw [← e]; simp [cbody], k⟩
  · obtain ⟨d, T, e, k⟩ := expr_rz (w := 2) (j := j) (f := f_times) (h.rz rfl)
    exact ⟨d, T, by rw [← e]; simp [cbody], k⟩
  · obtain ⟨d, T, e, k⟩ := expr_rz (w := 3) (j := j) (f := f_over) (h.rz rfl)
    exact ⟨d, T, by rw [← e]; simp [cbody], k⟩
  · obtain ⟨d, T, e, k⟩ := expr_rz (w := 4) (j := j) (f := f_compared) (h.rz rfl)
    exact ⟨d, T, by rw [← e]; simp [cbody], k⟩
  · obtain ⟨d, T, e, k⟩ := sum_two hS hj hl hL h
    exact ⟨d, T, by rw [← e]; simp only [cbody, ev_sIf, ev_Tst, ev_Op, v_0, ev_C, bind_ok, bindR_ok, g_eqI, isB_bl]; simp only [show decide ((5 : Int) = 0) = false by decide, show decide ((5 : Int) = 1) = false by decide, show decide ((5 : Int) = 2) = false by decide, show decide ((5 : Int) = 3) = false by decide, show decide ((5 : Int) = 4) = false by decide, show decide ((5 : Int) = 5) = true by decide, decide_true, bindR_ok, Bool.false_eq_true, if_false, if_true], k⟩
theorem g_eqS {s : Str} : gEq (.str s) (.str s) S = .ok (.bl true) S := by
  show Res.ok (D.bl (decide (s = s))) S = _
  rw [decide_eq_true rfl]
theorem g_repr {d : D} (h : reprP S d = some p) (hs : shows p = true) : gRepr [d] S = .ok (.str p.shown) S := by
  unfold gRepr
  simp only [h, hs, if_true]
theorem refused_of {z : D} (hb : ∃ d T, cbody (csl w x y j) S = .exc "InvalidFraction" d (csl w x y j) (S ++ T) ∧ ∀ U, reprP (S ++ T ++ U) d = some p) (hp : shows p = true) (hz : ∀ T, reprP (S ++ T) z = some p) :
    f_refused [.int w, x, y, .ref j, z] S = .ok (.bl true) S := by
  obtain ⟨d, T, e, k⟩ := hb
  have ec := caught_exc (by decide +kernel) e
  have e1 : mIsE errNames sub_InvalidFraction (mV 5) [some (.int w), some x, some y, some (.ref j), some z, some (.ref (S ++ T).length)] (S ++ T ++ [.exc "InvalidFraction" d]) = .ok (.bl true) (S ++ T ++ [.exc "InvalidFraction" d]) := by
    unfold mIsE excAt
    rw [v_5, bind_ok]
    simp only [get_last]
    rw [if_pos (by decide +kernel)]
    rfl
  have e2 : mVal errNames (mV 5) [some (.int w), some x, some y, some (.ref j), some z, some (.ref (S ++ T).length)] (S ++ T ++ [.exc "InvalidFraction" d]) = .ok d (S ++ T ++ [.exc "InvalidFraction" d]) := by
    unfold mVal excAt
    rw [v_5, bind_ok]
    simp only [get_last]
    rw [if_pos (by decide +kernel)]
  have e3 := g_repr (k [.exc "InvalidFraction" d]) hp
  have e4 := g_repr (S := S ++ T ++ [.exc "InvalidFraction" d]) (d := z) (by rw [List.append_assoc]; exact hz _) hp
  refine fn_ret (S1 := S ++ T ++ [.exc "InvalidFraction" d]) (d := .bl true) ?_ (by rw [List.append_assoc]; exact ret_app (by simp [below]))
  simp only [b_refused, List.map_cons, List.map_nil, List.length_cons, List.length_nil, List.replicate, List.cons_append, List.nil_append, Nat.reduceAdd, Nat.reduceSub, ev_Seq, ev_Asg, ev_App (g := f_caught), ev_Cons, ev_Nil, v_0, v_1, v_2, v_3, bind_ok, ec, bindR_ok, then_next, List.set_cons_zero, List.set_cons_succ, ev_Ret, ev_AndV, e1, isB_bl, if_true, ev_Op, ev_App (g := gRepr), e2, e3, v_4, e4, g_eqS]
theorem BadP.shown (h : BadP S i x p) (T : Store) : reprP (S ++ T) x = some p := (h.2 _ Hold.app).2.1
theorem zero_rz (hx : Fr 132 a b) : Rz S "InvalidFraction" (.tuple [.int 0, .int 1]) (f_over [fr a b, fr 0 1] S) := by
  have hz : gEq (fr 0 1) (.tup d_ZERO) S = .ok (.bl true) S := (g_eqFr (S := S) (p := 0) (q := 1) (r := 0) (s := 1)).trans rfl
  have hb : f_built_anew 8 [fr 0 1] S = .ok (fr 0 1) S := built_two built_int built_int
  have hc := zero_fr.check (S := S)
  refine ⟨fr 0 1, [], fn_exc (c := "InvalidFraction") (d := fr 0 1) (ρ := [some (fr a b), some (fr 0 1)]) (S1 := S) ?_ ?_, .inl rfl, fun U => repr_of py_fr⟩
  · simp [b_over, hx.check, hc, hz, hb]
  · have := exc_app (S := S) (c := "InvalidFraction") (d := fr 0 1) (T := []) (.inl rfl)
    rw [List.append_nil] at this
    rw [List.append_nil]
    exact this
end
end MI.K01

set_option Elab.async false
set_option linter.all false
set_option maxRecDepth 100000
set_option maxHeartbeats 4000000
set_option exponentiation.threshold 10000
namespace MI.K01
open PySem PySem.Spec PyProof.Rows L2 MI
variable {S S1 S2 : Store}
section
variable {i j n : Nat} {p q r s : Int}
theorem f_fraction_eq {a b : Int} (hb : b ≠ 0) (hl : b.natAbs.log2 < 9000) : f_fraction [.int a, .int b] S = .ok (quo a b) S :=
  fn_ret (S1 := S) (by simp [b_fraction, hb, f_reduced_eq hb hl]) ret_same
theorem f_fraction_zero {a : Int} : f_fraction [.int a, .int 0] S = .exc "InvalidNumber" (.int 0) S := by
  refine fn_exc (ρ := [some (.int a), some (.int 0)]) (S1 := S) (c := "InvalidNumber") (d := .int 0) (by simp [b_fraction]) ?_
  have := exc_app (S := S) (c := "InvalidNumber") (d := .int 0) (T := []) (.inl rfl)
  rwa [List.append_nil] at this
theorem f_made_eq (h : JugAt S i n) (hn : n < 600000) (hf : Fr 132 p q) : ∃ S1, f_made [.ref i, fr p q] S = .ok (.bl true) S1 ∧ Jugged S S1 i (n + 7) := by
  have hi := h.lt
  obtain ⟨t, A, ea, t0, t1, ja⟩ := f_drop_eq (m := 7) (by decide) (by decide) h (by omega)
  have q1 : mulOk p (1 + t) = true := mulOk_of (m := 132) (n := 10) hf.bp (by omega) (by decide)
  obtain ⟨z, B, eb, z0, z1, jb⟩ := f_size_eq (ja.t.at hi) (by omega)
  have jB := ja.t.trans jb.t hi
  obtain ⟨C, hC⟩ : ∃ C, C = B ++ [.lst [.int 1, .int (-1)]] := ⟨_, rfl⟩
  have jC : JugT S C i (n + 1 + 4) := by rw [hC]; exact jB.more _
  obtain ⟨u, D', ed, u0, u1, jd, jCD⟩ := drop_t (m := 2) (by decide) (by decide) jC hi (by omega)
  have lB : S.length ≤ B.length := jB.hold.1
  have aD : D'[B.length]? = some (.lst [.int 1, .int (-1)]) := jCD.get (by rw [hC]; exact get_last) (by omega)
  obtain ⟨e, he, hu⟩ : ∃ e : Int, (e = 1 ∨ e = -1) ∧ gIx (.ref B.length) (.int u) D' = .ok (.int e) D' := by
    have hu : u = 0 ∨ u = 1 := by omega
    rcases hu with rfl | rfl
    · exact ⟨1, .inl rfl, ix_r aD (atI_nat (j := 0) rfl)⟩
    · exact ⟨-1, .inr rfl, ix_r aD (atI_nat (j := 1) rfl)⟩
  have q2 : mulOk (1 + z) e = true := mulOk_of (m := 140) (n := 10) (by omega) (by omega) (by decide)
  have nz : (1 + z) * e ≠ 0 := by rcases he with rfl | rfl <;> omega
  have bl : ((1 + z) * e).natAbs < 2 ^ 140 := by rcases he with rfl | rfl <;> omega
  have bp : (p * (1 + t)).natAbs < 2 ^ 142 := mul_lt (m := 132) (n := 10) hf.bp (by omega)
  have ef := f_fraction_eq (S := D') (a := p * (1 + t)) nz (log2_lt (pow_le bl (show 140 ≤ 9000 by decide)) (by decide))
  have eq := f_quotient_eq (S := D') (p := p * (1 + t)) (q := 1) (r := (1 + z) * e) (s := 1) (B := 142) (by decide) bp (by decide) (pow_le bl (by decide)) (by decide) (by rw [Int.one_mul]; exact nz)
  rw [Int.mul_one, Int.one_mul] at eq
  have eb6 : cbody (csl 6 (.int (p * (1 + t))) (.int 0) D'.length) (D' ++ [.lst []]) = .exc "InvalidNumber" (.int 0) (csl 6 (.int (p * (1 + t))) (.int 0) D'.length) (D' ++ [.lst []] ++ []) := by
    simp [cbody, f_fraction_zero]
  have ec := caught_exc (by decide +kernel) eb6
  rw [List.append_nil] at ec
  obtain ⟨E', hE⟩ : ∃ E', E' = D' ++ [.lst []] ++ [.exc "InvalidNumber" (.int 0)] := ⟨_, rfl⟩
  rw [← hE] at ec
  have aE : E'[(D' ++ [Cell.lst []]).length]? = some (.exc "InvalidNumber" (.int 0)) := by rw [hE]; exact get_last
  have e1 : mIsE errNames sub_InvalidNumber (mV 4) [some (.ref i), some (fr p q), some (.int (p * (1 + t))), some (.int ((1 + z) * e)), some (.ref (D' ++ [Cell.lst []]).length)] E' = .ok (.bl true) E' := by
    unfold mIsE excAt
    rw [v_4, bind_ok]
    simp only [aE]
    rw [if_pos (by decide +kernel)]
    rfl
  have e2 : mVal errNames (mV 4) [some (.ref i), some (fr p q), some (.int (p * (1 + t))), some (.int ((1 + z) * e)), some (.ref (D' ++ [Cell.lst []]).length)] E' = .ok (.int 0) E' := by
    unfold mVal excAt
    rw [v_4, bind_ok]
    simp only [aE]
    rw [if_pos (by decide +kernel)]
  have jE : JugT S E' i (n + 7) := by rw [hE]; exact ((jd.more _).more _).le (by omega)
  obtain ⟨S4, er, j5⟩ := ret_jug (d := .bl true) jE (by simp [below])
  refine ⟨S4, fn_ret (S1 := E') (d := .bl true) ?_ er, j5⟩
  have em1 : (0 - 1 : Int) = -1 := by decide
  simp only [b_made, List.map_cons, List.map_nil, List.length_cons, List.length_nil, List.replicate, List.cons_append, List.nil_append, Nat.reduceAdd, Nat.reduceSub, ev_Seq, ev_Asg, ev_Op, ev_C, v_0, v_1, ix_t0, ix_t1, bind_ok, ev_App, ev_Cons, ev_Nil, ea, g_add, g_mul q1, bindR_ok, then_next, List.set_cons_zero, List.set_cons_succ, eb, g_sub, em1, g_lst (show [D.int 1, D.int (-1)].length ≤ 16777216 by simp), ← hC, ed, hu, g_mul q2, ev_sIf, ev_Not, ev_Tru, v_2, v_3, ef, g_tup (show [D.int (p * (1 + t)), D.int 1].length ≤ 16777216 by simp), g_tup (show [D.int ((1 + z) * e), D.int 1].length ≤ 16777216 by simp), eq, same_quo, tru_bl, Bool.not_true, Bool.false_eq_true, if_false, ev_Pass, g_lst (show ([] : List D).length ≤ 16777216 by simp), ec, ev_Ret, ev_AndV, e1, isB_bl, if_true, e2, same_int]
theorem share_false {d : D} (h : f_is_fraction [d] S = .ok (.bl false) S) : f_is_share [d] S = .ok (.bl false) S := by
  have e1 : f_is_from_zero [d] S = .ok (.bl false) S := fn_ret (S1 := S) (by simp [b_is_from_zero, h]) ret_same
  exact fn_ret (S1 := S) (by simp [b_is_share, e1]) ret_same
theorem f_refusals_eq {L : List (Int × Int)} (h : JugAt S i n) (hn : n < 500000) (hf : Fr 132 p q) (hg : Fr 132 r s) (hS : S[j]? = some (.lst (frL L))) (hj : j ≠ i) (hl : ∀ y ∈ L, Fr 132 y.1 y.2) (hL : L.length ≤ 20) :
    ∃ S1, f_refusals [.ref i, fr p q, fr r s, .ref j] S = .ok (.bl true) S1 ∧ Jugged S S1 i (n + 5) := by
  have hi := h.lt
  obtain ⟨bad, A, eo, ja, hb⟩ := f_odd_eq h (by omega) hf
  obtain ⟨P, hP⟩ := hb.p
  obtain ⟨w, B, ew, w0, w1, jb, jab⟩ := drop_t (m := 6) (by decide) (by decide) ja hi (by omega)
  have hPB := hP.on jab.hold
  have SB := jb.get hS hj
  have r1 : f_refused [.int w, bad, fr r s, .ref j, bad] B = .ok (.bl true) B := refused_of (body_two SB hj hl hL w0 w1 (.fst hPB)) hP.1 hPB.shown
  have r2 : f_refused [.int w, fr p q, bad, .ref j, bad] B = .ok (.bl true) B := refused_of (body_two SB hj hl hL w0 w1 (.snd hf hPB)) hP.1 hPB.shown
  obtain ⟨odd, C, eo2, jc, _⟩ := f_odd_eq (jb.at hi) (by omega) hg
  have jC := jb.trans jc hi
  have hPC := hPB.on jc.hold
  have SC := jC.get hS hj
  have r3 : f_refused [.int w, bad, odd, .ref j, bad] C = .ok (.bl true) C := refused_of (body_two SC hj hl hL w0 w1 (.fst hPC)) hP.1 hPC.shown
  obtain ⟨D1, hD1⟩ : ∃ T, T = C ++ [.lst []] := ⟨_, rfl⟩
  have hPD : BadP D1 i bad P := by rw [hD1]; exact hPC.on Hold.app
  have x4 : ∃ d T, cbody (csl 3 bad (fr 0 1) C.length) D1 = .exc "InvalidFraction" d (csl 3 bad (fr 0 1) C.length) (D1 ++ T) ∧ ∀ U, reprP (D1 ++ T ++ U) d = some P := by
    obtain ⟨d, T, e, k⟩ := expr_rz (w := 3) (j := C.length) (f := f_over) (Two.rz (i := i) (b2 := b_over) rfl (.fst (y := fr 0 1) hPD))
    exact ⟨d, T, by rw [← e]; simp [cbody], k⟩
  have r4 : f_refused [.int 3, bad, fr 0 1, .ref C.length, bad] D1 = .ok (.bl true) D1 := refused_of x4 hP.1 hPD.shown
  obtain ⟨D2, hD2⟩ : ∃ T, T = D1 ++ [.lst []] := ⟨_, rfl⟩
  have x5 : ∃ d T, cbody (csl 3 (fr p q) (fr 0 1) D1.length) D2 = .exc "InvalidFraction" d (csl 3 (fr p q) (fr 0 1) D1.length) (D2 ++ T) ∧ ∀ U, reprP (D2 ++ T ++ U) d = some (.tuple [.int 0, .int 1]) := by
    obtain ⟨d, T, e, k⟩ := expr_rz (w := 3) (j := D1.length) (f := f_over) (zero_rz (S := D2) hf)
    exact ⟨d, T, by rw [← e]; simp [cbody], k⟩
  have r5 : f_refused [.int 3, fr p q, fr 0 1, .ref D1.length, fr 0 1] D2 = .ok (.bl true) D2 := refused_of x5 (shows_of (by simp [PyData.showable, PyData.showableAll]; decide) (by simp [PyData.leavesShort, PyData.leavesShortAll]; decide +kernel) (by simp [PyData.weight, PyData.weightAll]; decide) (by simp [PyData.depth, PyData.depthAll])) fun T => repr_of py_fr
  have m3 := fmod_bd (a := w) (m := 3) (by decide)
  have r6 : f_caught [.int (w.fmod 3), fr p q, fr r s, .ref j] D2 = .ok .non D2 := by
    refine caught_none ?_
    have hw : w.fmod 3 = 0 ∨ w.fmod 3 = 1 ∨ w.fmod 3 = 2 := by omega
    rcases hw with e | e | e
    · rw [e]; simp [cbody, f_plus_eq (S := D2) (by decide) hf hg]
    · rw [e]; simp [cbody, f_less_eq (S := D2) (by decide) hf hg]
    · rw [e]; simp [cbody, f_times_eq (S := D2) (by decide) hf hg]
  have b1 := (hP.2 A Hold.refl).1
  have b2 := share_false b1
  have i1 : gIs true (.bl false) (.bl false) A = .ok (.bl false) A := id rfl
  have i2 : gIs false .non .non D2 = .ok (.bl true) D2 := id rfl
  have jD : JugT S D2 i (n + 5) := by rw [hD2, hD1]; exact ((jC.more _).more _).le (by omega)
  obtain ⟨S4, er, j5⟩ := ret_jug (d := .bl true) jD (by simp [below])
  refine ⟨S4, fn_ret (S1 := D2) (d := .bl true) ?_ er, j5⟩
  have g3 : (3 : Int) ≠ 0 := by decide
  simp only [b_refusals, List.map_cons, List.map_nil, List.length_cons, List.length_nil, List.replicate, List.cons_append, List.nil_append, Nat.reduceAdd, Nat.reduceSub, ev_Seq, ev_Asg, ev_App (g := f_odd), ev_Cons, ev_Nil, v_0, v_1, v_2, v_3, bind_ok, eo, bindR_ok, then_next, List.set_cons_zero, List.set_cons_succ, ev_sIf, ev_Or, ev_Tst, ev_Op, ev_App (g := f_is_fraction), ev_App (g := f_is_share), v_4, b1, b2, ev_C, i1, isB_bl, Bool.false_eq_true, if_false, ev_Pass, ev_App (g := f_drop), ew, ev_Not, ev_Tru, ev_App (g := f_refused), v_5, r1, r2, tru_bl, Bool.not_true, eo2, r3, ev_App (g := gTup), ev_App (g := gLst), g_tup (show [D.int 0, D.int 1].length ≤ 16777216 by simp), g_lst (show ([] : List D).length ≤ 16777216 by simp), ← hD1, r4, ← hD2, r5, ev_Ret, ev_App (g := f_caught), ev_App (g := gInt), g_int, g_mod g3, r6, i2]
end
end MI.K01

set_option Elab.async false
set_option linter.all false
set_option maxRecDepth 100000
set_option maxHeartbeats 4000000
set_option exponentiation.threshold 10000
namespace MI.K01
open PySem PySem.Spec PyProof.Rows L2 MI
variable {S S1 S2 : Store}
/-! the parts, drawn one by one -/
theorem draws {i : Nat} {its : List D} {x y : D} : ∀ (items : List D) (S : Store) (n : Nat), JugAt S i n → n + 9 * items.length < 700000 →
    ∃ (L : List (Int × Int)) (S1 : Store), lcL (.nm 4) ⟨[], its⟩ mYes (mApp f_draw (mCons (mV 0) (mNil))) [some (.ref i), some x, some y, none, none, none] items S = .ok (frL L) S1 ∧ L.length = items.length ∧ (∀ z ∈ L, Fr 132 z.1 z.2) ∧ JugT S S1 i (n + 9 * items.length) ∧ S1.length = S.length
  | [], S, n, h, _ => ⟨[], S, by unfold lcL; simp [Src.ok], rfl, fun z hz => (by cases hz), h.refl.le (by simp), rfl⟩
  | d :: ds, S, n, h, hn => by
    rw [List.length_cons] at hn
    obtain ⟨p, q, S1, e, hf, j⟩ := f_draw_eq h (by omega)
    obtain ⟨L, S2, e2, hl, hL, j2, l2⟩ := draws (x := x) (y := y) (its := its) ds S1 (n + 9) (j.t.at h.lt) (by omega)
    refine ⟨(p, q) :: L, S2, ?_, by simp [hl], fun z hz => ?_, (j.t.trans j2 h.lt).le (by rw [List.length_cons]; omega), l2.trans j.len⟩
    · unfold lcL
      simp [Src.ok, asg, mYes, noX, e]
      have e3 := e2
      unfold mYes at e3
      first
        | rw [e2]; rfl
        | rw [e3]; rfl
        | simp [e2]
    · rcases List.mem_cons.mp hz with rfl | hz
      · exact hf.le (by decide)
      · exact hL z hz
/-! lists of fractions as data -/
theorem toPys_fr : ∀ (L : List (Int × Int)) (n : Nat), L.length + 5 ≤ n → toPys S n (frL L) = some (L.map fun z => .tuple [.int z.1, .int z.2])
  | [], n + 1, _ => by simp [toPys]
  | z :: L, n + 1, h => by
    rw [List.length_cons] at h
    have ih := toPys_fr L n (by omega)
    obtain ⟨m, rfl⟩ : ∃ m, n = m + 4 := ⟨n - 4, by omega⟩
    have e : toPy S (m + 4) (fr z.1 z.2) = some (.tuple [.int z.1, .int z.2]) := by
      simp [toPy, toPys]
    show toPys S (m + 4 + 1) (fr z.1 z.2 :: frL L) = _
    rw [toPys, e, ih]
    rfl
theorem toPy_frL {k : Nat} {L : List (Int × Int)} (h : S[k]? = some (.lst (frL L))) (hl : L.length ≤ 100) : toPy S fuelD (.ref k) = some (.list (L.map fun z => .tuple [.int z.1, .int z.2])) := by
  have e := toPys_fr (S := S) L 139 (by omega)
  show toPy S (139 + 1) (.ref k) = _
  rw [toPy]
  simp only [h, e]
  rfl
theorem lay_fr : ∀ L : List (Int × Int), PyData.canLayAll0 (L.map fun z => PyData.tuple [.int z.1, .int z.2]) = true
  | [] => by simp [PyData.canLayAll0]
  | z :: L => by simp [PyData.canLayAll0, PyData.canLay0, lay_fr L]
theorem dep_fr : ∀ L : List (Int × Int), PyData.depthAll (L.map fun z => PyData.tuple [.int z.1, .int z.2]) ≤ 10
  | [] => by simp [PyData.depthAll]
  | z :: L => by
    have := dep_fr L
    simp [PyData.depthAll, PyData.depth]
    omega
theorem ne_same {a b : Nat} {L : List (Int × Int)} (ha : S[a]? = some (.lst (frL L))) (hb : S[b]? = some (.lst (frL L))) (hl : L.length ≤ 100) : gNe (.ref a) (.ref b) S = .ok (.bl false) S := by
  have c : PyData.canLay0 (.list (L.map fun z => PyData.tuple [.int z.1, .int z.2])) = true := by
    simp only [PyData.canLay0]
    exact lay_fr L
  have sh : SeqAt.shaped (.list (L.map fun z => PyData.tuple [.int z.1, .int z.2])) = true := by
    have := dep_fr L
    simp [SeqAt.shaped, c, PyData.depth]
    omega
  show gEqO true (.ref a) (.ref b) S = _
  rw [g_eqB (neg := true) (toPy_frL ha hl) (toPy_frL hb hl) sh sh, PySem.SeqAt.eqv_refl _ c]
  rfl
theorem JugT.set_new {i n k : Nat} {c : Cell} (h : JugT S S1 i n) (hk : S.length ≤ k) : JugT S (S1.set k c) i n := by
  obtain ⟨a, x, z, T, e, h1⟩ := h
  refine ⟨a, x, z, T.set (k - S.length) c, ?_, h1⟩
  rw [e, List.set_append_right _ _ (by simpa using hk)]
  simp
theorem f_right_eq {i n : Nat} (h : JugAt S i n) (hn : n < 1000) : ∃ S1, f_right [.ref i] S = .ok (.bl true) S1 ∧ Jugged S S1 i (n + 200) := by
  have hi := h.lt
  obtain ⟨p, q, A, ea, fa, ja⟩ := f_draw_eq h (by omega)
  have Fa : Fr 132 p q := fa.le (by decide)
  obtain ⟨r, s, B, eb, fb, jb⟩ := f_second_eq (ja.t.at hi) (by omega) fa
  have jB := ja.t.trans jb.t hi
  obtain ⟨t, C, ec, t0, t1, jC, _⟩ := drop_t (m := 7) (by decide) (by decide) jB hi (by omega)
  have hit : (rng 0 t.toNat).length = t.toNat := by simp [rng]
  obtain ⟨L, D, ed, hl, hL, jd, ld⟩ := draws (its := rng 0 t.toNat) (x := fr p q) (y := fr r s) (rng 0 t.toNat) C _ (jC.at hi) (by rw [hit]; omega)
  rw [hit] at hl jd
  have l7 : L.length ≤ 7 := by omega
  have jD := (jC.trans jd hi).le (m := n + 100) (by omega)
  have lS : S.length ≤ D.length := jD.hold.1
  obtain ⟨E1, hE1⟩ : ∃ T, T = D ++ [.lst (frL L)] := ⟨_, rfl⟩
  obtain ⟨E2, hE2⟩ : ∃ T, T = E1 ++ [.lst (frL L)] := ⟨_, rfl⟩
  have lE1 : E1.length = D.length + 1 := by rw [hE1]; simp
  have lE2 : E2.length = D.length + 2 := by rw [hE2]; simp [lE1]
  have p1 : E1[D.length]? = some (.lst (frL L)) := by rw [hE1]; exact get_last
  have p2 : E2[D.length]? = some (.lst (frL L)) := by rw [hE2]; exact get_more p1
  have h2 : E2[E1.length]? = some (.lst (frL L)) := by rw [hE2]; exact get_last
  have em : mLc (.nm 4) [4] (mRng1 (mApp f_drop (mCons (mV 0) (mCons (mC (.int 7)) (mNil))))) mYes (mApp f_draw (mCons (mV 0) (mNil))) [some (.ref i), some (fr p q), some (fr r s), none, none, none] B = .ok (frL L) D := by
    have h6 : small62 t = true := by unfold small62; rw [decide_eq_true_eq]; omega
    unfold mLc mRng1
    simp only [ev_App, ev_Cons, ev_Nil, v_0, ev_C, bind_ok, ec]
    unfold gRng1
    simp only [h6, if_true, bind_ok]
    rw [if_pos (by rw [hit]; omega)]
    exact ed
  have e1 : sAsg (.nm 3) (mBox (mLc (.nm 4) [4] (mRng1 (mApp f_drop (mCons (mV 0) (mCons (mC (.int 7)) (mNil))))) mYes (mApp f_draw (mCons (mV 0) (mNil))))) [some (.ref i), some (fr p q), some (fr r s), none, none, none] B = .next [some (.ref i), some (fr p q), some (fr r s), some (.ref D.length), none, none] E1 := by
    rw [ev_Asg]
    unfold mBox
    rw [em, hE1]
    rfl
  have gl : gList [.ref D.length] E1 = .ok (.ref E1.length) E2 := by
    unfold gList seqOf
    simp only [p1]
    rw [hE2]
  have w1 := f_told_eq (S := E2) Fa
  have w2 := f_told_eq (S := E2) fb
  have w3 := f_worked_eq (S := E2) (by decide) Fa fb
  have w4 := f_worked_eq (S := E2) (by decide) fb Fa
  have s1 := f_sum_of_eq h2 (by omega) hL
  have s2 := f_sum_eq p2 (by omega) hL
  have n1 := ne_same h2 p2 (by omega)
  -- one more
  obtain ⟨E3, hE3⟩ : ∃ T, T = E2.set E1.length (.lst (frL (L ++ [(p, q)]))) := ⟨_, rfl⟩
  have ap : mMt gApp (mV 5) (mCons (mV 1) mNil) [some (.ref i), some (fr p q), some (fr r s), some (.ref D.length), none, some (.ref E1.length)] E2 = .ok .non E3 := by
    unfold mMt isLst gApp
    simp only [v_5, bind_ok, h2, if_true, ev_Cons, ev_Nil, v_1]
    rw [if_pos (by simp; omega), hE3]
    simp
  have h3 : E3[E1.length]? = some (.lst (frL (L ++ [(p, q)]))) := by
    rw [hE3]
    exact List.getElem?_set_self (by omega)
  have p3 : E3[D.length]? = some (.lst (frL L)) := by
    rw [hE3, List.getElem?_set_ne (by omega)]
    exact p2
  have hL2 : ∀ z ∈ L ++ [(p, q)], Fr 132 z.1 z.2 := fun z hz => by
    rcases List.mem_append.mp hz with hz | hz
    · exact hL z hz
    · have e : z = (p, q) := by simpa using hz
      rw [e]; exact Fa
  have s3 := f_sum_of_eq h3 (by simp; omega) hL2
  obtain ⟨E4, hE4⟩ : ∃ T, T = E3 ++ [.lst [fr p q]] := ⟨_, rfl⟩
  obtain ⟨E5, hE5⟩ : ∃ T, T = E4 ++ [.lst (frL (L ++ [(p, q)]))] := ⟨_, rfl⟩
  have p4 : E4[D.length]? = some (.lst (frL L)) := by rw [hE4]; exact get_more p3
  have q4 : E4[E3.length]? = some (.lst [fr p q]) := by rw [hE4]; exact get_last
  have gc : gAdd (.ref D.length) (.ref E3.length) E4 = .ok (.ref E4.length) E5 := by
    have := g_cat p4 q4 (by simp; omega)
    rw [this, hE5]
    simp
  have q5 : E5[E4.length]? = some (.lst (frL (L ++ [(p, q)]))) := by rw [hE5]; exact get_last
  have s4 := f_sum_eq q5 (by simp; omega) hL2
  have p5 : E5[D.length]? = some (.lst (frL L)) := by rw [hE5]; exact get_more p4
  have jE5 : JugT S E5 i (n + 100) := by
    rw [hE5, hE4, hE3]
    refine ((JugT.set_new ?_ (by omega)).more _).more _
    rw [hE2, hE1]
    exact (jD.more _).more _
  obtain ⟨F, ef, jf⟩ := f_made_eq (jE5.at hi) (by omega) Fa
  have pF := jf.t.get p5 (by omega)
  have jF := jE5.trans jf.t hi
  obtain ⟨G, eg, jg⟩ := f_refusals_eq (jF.at hi) (by omega) Fa fb pF (by omega) hL (by omega)
  have jG := (jF.trans jg.t hi).le (m := n + 200) (by omega)
  obtain ⟨S4, er, j5⟩ := ret_jug (d := .bl true) jG (by simp [below])
  refine ⟨S4, fn_ret (S1 := G) (d := .bl true) ?_ er, j5⟩
  simp only [b_right, List.map_cons, List.map_nil, List.length_cons, List.length_nil, List.replicate, List.cons_append, List.nil_append, Nat.reduceAdd, Nat.reduceSub, ev_Seq, ev_Asg (m := mApp f_draw (mCons (mV 0) mNil)), ev_Asg (m := mApp f_second (mCons (mV 0) (mCons (mV 1) mNil))), ev_Asg (m := mApp gList (mCons (mV 3) mNil)), ev_App, ev_Cons, ev_Nil, v_0, v_1, v_2, v_3, v_5, bind_ok, ea, eb, bindR_ok, then_next, List.set_cons_zero, List.set_cons_succ, e1, gl, ev_sIf, ev_Or, ev_Not, ev_Tru, w1, w2, w3, w4, tru_bl, Bool.not_true, Bool.false_eq_true, if_false, ev_Pass, s1, s2, same_fr, ev_Tst, ev_Op, n1, isB_bl, ev_Expr, ap, s3, g_lst (show [fr p q].length ≤ 16777216 by simp), ← hE4, gc, s4, ef, ev_Ret, eg]
/-! the law -/
theorem f_jug_eq {c k : Int} (hc : c.natAbs.log2 ≤ 1048576) (hk : 0 ≤ k) (hk8 : k ≤ 63) : ∃ a x : Int, f_jug [.int c, .int k] S = .ok (.ref S.length) (S ++ [.lst [.int a, .int x, .int 0]]) ∧ 0 ≤ x ∧ x < 10000000000000000000000000 := by
  have q1 : mulOk c 32452843 = true := by
    have : (32452843 : Int).natAbs.log2 < 30 := log2_lt (by decide) (by decide)
    unfold mulOk
    rw [decide_eq_true_eq]
    omega
  have q2 : mulOk (k + 11) 49979687 = true := mulOk_of (m := 30) (n := 30) (by omega) (by decide) (by decide)
  have m0 : (1000000000000000000000000 + 7 : Int) ≠ 0 := by decide
  have b := fmod_bd (a := c * 32452843 + (k + 11) * 49979687) (m := 1000000000000000000000000 + 7) (by decide)
  refine ⟨if c - 1000000000000000000 > 0 then c - 1000000000000000000 else 0, (c * 32452843 + (k + 11) * 49979687).fmod (1000000000000000000000000 + 7), ?_, b.1, by omega⟩
  refine fn_ret (S1 := S ++ [.lst [.int (if c - 1000000000000000000 > 0 then c - 1000000000000000000 else 0), .int ((c * 32452843 + (k + 11) * 49979687).fmod (1000000000000000000000000 + 7)), .int 0]]) (d := .ref S.length) ?_ ((ret_new (Nat.le_refl _) get_last (by simp [belows, below]) keeps_app).trans (by rw [List.take_left]))
  simp only [b_jug, List.map_cons, List.map_nil, List.length_cons, List.length_nil, List.replicate, List.cons_append, List.nil_append, Nat.reduceAdd, Nat.reduceSub, ev_Ret, ev_App, ev_Cons, ev_Nil, ev_C, ev_Op, v_0, v_1, bind_ok, pow18, pow24, g_sub, g_max2, g_mul q1, g_mul q2, g_add, g_int, g_mod m0]
  rw [g_lst (by simp)]
  rfl
end MI.K01

set_option Elab.async false
set_option linter.all false
set_option maxRecDepth 100000
set_option maxHeartbeats 4000000
set_option exponentiation.threshold 10000
namespace MI.K01
open PySem PySem.Spec PyProof.Rows L2 MI
variable {S S1 S2 : Store}
def lawBody : MS := sIf (mNot (mTru (mApp f_right (mCons (mApp f_jug (mCons (mOp gIx (mV 1) (mV 2)) (mCons (mV 2) (mNil)))) (mNil))))) (sRet (mC (.bl false))) (sPass)
theorem law_turn {cs : List Int} {x : D} {j k : Nat} {c : Int} (hS : S[j]? = some (.lst (cs.map D.int))) (hk : cs[k]? = some c) (h63 : k ≤ 63) (hc : c.natAbs.log2 ≤ 1048576) :
    ∃ S', lawBody [some x, some (.ref j), some (.int k)] S = .next [some x, some (.ref j), some (.int k)] S' ∧ S'[j]? = some (.lst (cs.map D.int)) := by
  obtain ⟨a, y, e, y0, y1⟩ := f_jug_eq (S := S) hc (k := (k : Int)) (by omega) (by omega)
  have ja : JugAt (S ++ [.lst [.int a, .int y, .int 0]]) S.length 0 := ⟨a, y, 0, get_last, y0, y1, by omega, by omega⟩
  obtain ⟨S', er, j'⟩ := f_right_eq ja (by omega)
  have hj : j < S.length := (List.getElem?_eq_some_iff.mp hS).1
  refine ⟨S', ?_, j'.t.get (get_more hS) (by omega)⟩
  have ei : gIx (.ref j) (.int k) S = .ok (.int c) S := ix_r hS (atI_nat (by rw [List.getElem?_map, hk]; rfl))
  simp only [lawBody, ev_sIf, ev_Not, ev_Tru, ev_App, ev_Cons, ev_Nil, ev_Op, v_1, v_2, bind_ok, ei, e, er, tru_bl, Bool.not_true, bindR_ok, Bool.false_eq_true, if_false, ev_Pass]
theorem law_loop {cs : List Int} {x : D} {j : Nat} {its : List D} (h63 : cs.length ≤ 63) (hc : ∀ c ∈ cs, c.natAbs.log2 ≤ 1048576) : ∀ (items : List D) (S : Store) (o : Option D), S[j]? = some (.lst (cs.map D.int)) → (∀ d ∈ items, ∃ k : Nat, d = .int k ∧ k < cs.length) →
    ∃ S' z, forL (.nm 2) lawBody ⟨[], its⟩ items [some x, some (.ref j), o] S = .next [some x, some (.ref j), z] S'
  | [], S, o, _, _ => ⟨S, o, by simp [forL, Src.ok]⟩
  | d :: ds, S, o, hS, h => by
    obtain ⟨k, rfl, hk⟩ := h d List.mem_cons_self
    obtain ⟨S1, e, h1⟩ := law_turn (x := x) hS (List.getElem?_eq_getElem hk) (by omega) (hc _ (List.getElem_mem hk))
    obtain ⟨S2, z, e2⟩ := law_loop (x := x) (its := its) h63 hc ds S1 (some (.int k)) h1 fun d hd => h d (List.mem_cons_of_mem _ hd)
    refine ⟨S2, z, ?_⟩
    have hok : Src.ok ⟨[], its⟩ S = true := by simp [Src.ok]
    show (if Src.ok ⟨[], its⟩ S = true then _ else SR.no) = _
    rw [if_pos hok]
    show (match lawBody [some x, some (.ref j), some (.int k)] S with
        | .next ρ2 S2 => forL (.nm 2) lawBody ⟨[], its⟩ ds ρ2 S2
        | .cont ρ2 S2 => forL (.nm 2) lawBody ⟨[], its⟩ ds ρ2 S2
        | .brk ρ2 S2 => SR.next ρ2 S2
        | r => r) = _
    rw [e]
    exact e2
theorem toPys_ints : ∀ (ns : List Int) (n : Nat), ns.length + 2 ≤ n → toPys S n (ns.map D.int) = some (ns.map PyData.int)
  | [], n + 1, _ => by simp [toPys]
  | z :: L, n + 1, h => by
    rw [List.length_cons] at h
    have ih := toPys_ints L n (by omega)
    obtain ⟨m, rfl⟩ : ∃ m, n = m + 1 := ⟨n - 1, by omega⟩
    show toPys S (m + 1 + 1) (D.int z :: L.map D.int) = _
    rw [toPys, ih]
    simp [toPy]
theorem lay_ints : ∀ L : List Int, PyData.canLayAll0 (L.map PyData.int) = true
  | [] => by simp [PyData.canLayAll0]
  | z :: L => by simp [PyData.canLayAll0, PyData.canLay0, lay_ints L]
theorem dep_ints : ∀ L : List Int, PyData.depthAll (L.map PyData.int) ≤ 10
  | [] => by simp [PyData.depthAll]
  | z :: L => by
    have := dep_ints L
    simp [PyData.depthAll, PyData.depth]
    omega
theorem eq_empty {ns : List Int} {k : Nat} (hl : ns.length ≤ 63) (hk : S[k]? = some (.lst [])) : ∃ b, gEq (.fro (ns.map D.int)) (.ref k) S = .ok (.bl b) S := by
  have e1 : toPy S fuelD (.fro (ns.map D.int)) = some (.list (ns.map PyData.int)) := by
    have e := toPys_ints (S := S) ns 139 (by omega)
    show toPy S (139 + 1) _ = _
    rw [toPy, e]
    rfl
  have e2 : toPy S fuelD (.ref k) = some (.list []) := by
    simp [fuelD, toPy, toPys, hk]
  have s1 : SeqAt.shaped (.list (ns.map PyData.int)) = true := by
    have := dep_ints ns
    have c : PyData.canLay0 (.list (ns.map PyData.int)) = true := by
      simp only [PyData.canLay0]
      exact lay_ints ns
    simp [SeqAt.shaped, c, PyData.depth]
    omega
  have s2 : SeqAt.shaped (.list []) = true := by simp [SeqAt.shaped, PyData.canLay0, PyData.canLayAll0, PyData.depth, PyData.depthAll]
  exact ⟨_, g_eqB (neg := false) e1 e2 s1 s2⟩
theorem f_law_eq (ns : List Int) (hl : ns.length ≤ 63) (hb : ∀ z ∈ ns, z.natAbs.log2 ≤ 1048576) : ∃ S, f_law [.fro (ns.map D.int)] [] = .ok (.bl true) S := by
  obtain ⟨cut, hcut⟩ : ∃ c : List Int, c = (ns.drop (HT.sIx ns.length 0 none)).take (HT.sIx ns.length ns.length (some 8) - HT.sIx ns.length 0 none) := ⟨_, rfl⟩
  have lc : cut.length ≤ 8 := by
    rw [hcut, List.length_take]
    have : HT.sIx ns.length ns.length (some 8) = min 8 ns.length := HT.sIx_nat _ _ 8
    rw [this]
    omega
  have bc : ∀ z ∈ cut, z.natAbs.log2 ≤ 1048576 := fun z hz => by
    rw [hcut] at hz
    exact hb z (List.mem_of_mem_drop (List.mem_of_mem_take hz))
  have ecut : cutL (ns.map D.int) none (some 8) = cut.map D.int := by
    rw [hcut]
    unfold cutL
    simp only [List.length_map, ← List.map_drop, ← List.map_take]
  have e1 : mSlice (mV 0) none (some (mC (.int 8))) [some (.fro (ns.map D.int)), none, none] [] = .ok (.ref 0) [.lst (cut.map D.int)] := by
    rw [← ecut]
    rfl
  obtain ⟨b, eb⟩ := eq_empty (S := [Cell.lst (cut.map D.int), .lst [.int 0], .lst []]) (ns := ns) (k := 2) hl rfl
  obtain ⟨k, hk, ek⟩ : ∃ k : Nat, k ≤ 1 ∧ gInt [.bl b] [Cell.lst (cut.map D.int), .lst [.int 0], .lst []] = .ok (.int k) [Cell.lst (cut.map D.int), .lst [.int 0], .lst []] := by
    cases b
    · exact ⟨0, by decide, rfl⟩
    · exact ⟨1, by decide, rfl⟩
  obtain ⟨cs, hcs, ec⟩ : ∃ rep : List Int, rep.length ≤ 1 ∧ (∀ z ∈ rep, z.natAbs.log2 ≤ 1048576) ∧ gMul (.ref 1) (.int k) [Cell.lst (cut.map D.int), .lst [.int 0], .lst []] = .ok (.ref 3) [Cell.lst (cut.map D.int), .lst [.int 0], .lst [], .lst (rep.map D.int)] := by
    have hk2 : k = 0 ∨ k = 1 := by omega
    rcases hk2 with rfl | rfl
    · exact ⟨[], by decide, (fun z hz => by cases hz), rfl⟩
    · exact ⟨[0], by decide, (fun z hz => by
        have : z = 0 := by simpa using hz
        subst this; decide), rfl⟩
  obtain ⟨bcs, ec⟩ := ec
  have ea : gAdd (.ref 0) (.ref 3) [Cell.lst (cut.map D.int), .lst [.int 0], .lst [], .lst (cs.map D.int)] = .ok (.ref 4) [Cell.lst (cut.map D.int), .lst [.int 0], .lst [], .lst (cs.map D.int), .lst ((cut ++ cs).map D.int)] := by
    have := g_cat (S := [Cell.lst (cut.map D.int), .lst [.int 0], .lst [], .lst (cs.map D.int)]) (a := 0) (b := 3) rfl rfl (by simp; omega)
    rw [this, List.map_append]
    rfl
  have l9 : (cut ++ cs).length ≤ 63 := by rw [List.length_append]; omega
  obtain ⟨S', z, el⟩ := law_loop (cs := cut ++ cs) (x := .fro (ns.map D.int)) (j := 4) (its := rng 0 (cut ++ cs).length) l9 (fun c hc => (List.mem_append.mp hc).elim (bc c) (bcs c)) (rng 0 (cut ++ cs).length)
    [Cell.lst (cut.map D.int), .lst [.int 0], .lst [], .lst (cs.map D.int), .lst ((cut ++ cs).map D.int)] none rfl fun d hd => by
      obtain ⟨m, hm, rfl⟩ := List.mem_map.mp hd
      exact ⟨m, by rw [Int.zero_add], List.mem_range.mp hm⟩
  have ef : sFor (.nm 2) (mRng1 (mApp gLen (mCons (mV 1) (mNil)))) lawBody [some (.fro (ns.map D.int)), some (.ref 4), none] [Cell.lst (cut.map D.int), .lst [.int 0], .lst [], .lst (cs.map D.int), .lst ((cut ++ cs).map D.int)] = .next [some (.fro (ns.map D.int)), some (.ref 4), z] S' := by
    have g : gLen [.ref 4] [Cell.lst (cut.map D.int), .lst [.int 0], .lst [], .lst (cs.map D.int), .lst ((cut ++ cs).map D.int)] = .ok (.int ((cut ++ cs).length : Nat)) [Cell.lst (cut.map D.int), .lst [.int 0], .lst [], .lst (cs.map D.int), .lst ((cut ++ cs).map D.int)] := by
      have : gLen [.ref 4] [Cell.lst (cut.map D.int), .lst [.int 0], .lst [], .lst (cs.map D.int), .lst ((cut ++ cs).map D.int)] = .ok (.int (((cut ++ cs).map D.int).length : Nat)) [Cell.lst (cut.map D.int), .lst [.int 0], .lst [], .lst (cs.map D.int), .lst ((cut ++ cs).map D.int)] := rfl
      rw [this, List.length_map]
    have h6 : small62 ((cut ++ cs).length : Nat) = true := by unfold small62; rw [decide_eq_true_eq]; omega
    unfold sFor mRng1
    simp only [ev_App, ev_Cons, ev_Nil, v_1, bind_ok, g]
    unfold gRng1
    simp only [h6, if_true, bindR_ok, Int.toNat_natCast]
    exact el
  unfold lawBody at ef
  refine ⟨_, fn_ret (S1 := S') (d := .bl true) ?_ (ret_keep rfl rfl)⟩
  have g1 : gLst [.int 0] [Cell.lst (cut.map D.int)] = .ok (.ref 1) [Cell.lst (cut.map D.int), .lst [.int 0]] := rfl
  have g2 : gLst [] [Cell.lst (cut.map D.int), .lst [.int 0]] = .ok (.ref 2) [Cell.lst (cut.map D.int), .lst [.int 0], .lst []] := rfl
  simp only [b_law, List.map_cons, List.map_nil, List.length_cons, List.length_nil, List.replicate, List.cons_append, List.nil_append, Nat.reduceAdd, Nat.reduceSub, ev_Seq, ev_Asg, ev_Op, e1, bind_ok, ev_App (g := gLst), ev_App (g := gInt), ev_Cons, ev_Nil, ev_C, g1, v_0, g2, eb, ek, ec, ea, bindR_ok, then_next, List.set_cons_zero, List.set_cons_succ, ef, ev_Ret]
end MI.K01

set_option Elab.async false
set_option linter.all false
open PySem PySem.W PyProof.Rows
set_option maxRecDepth 100000 in
set_option maxHeartbeats 0 in
theorem PySem.Challenge.cw_caskyears_k01_fractions_in_lowest_terms_holds : PySem.Challenge.rw_caskyears_k01_fractions_in_lowest_terms.Holds := by
  w_on; o_law; k_head; (case hw => w_witness2)
  k_fill
  refine MI.walk_G (l := PySem.Challenge.rw_caskyears_k01_fractions_in_lowest_terms) (n := 63) (k := 17) (x := "_law_script") (f := MI.K01.f_law) rfl (by decide) rfl ⟨rfl, by decide, by decide⟩ (fun w h Y => PySem.W.kIn_of Y) ?F (fun ns hl hb => MI.K01.f_law_eq ns hl hb)
  case F =>
    intro w mg fa h KX G hmg
    refine' MI.K01.all_mk (MI.K01.mkTxt KX G ?m_drop ?F_drop ?m_size ?F_size ?m_low ?F_low ?m_draw ?F_draw ?m_second ?F_second ?m_odd ?F_odd ?m_is_integer ?F_is_integer ?m_is_fraction ?F_is_fraction ?m_built_anew ?F_built_anew ?m_check_fraction ?F_check_fraction ?m_reduced ?F_reduced ?m_added ?F_added ?m_plus ?F_plus ?m_lessened ?F_lessened ?m_less ?F_less ?m_multiplied ?F_multiplied ?m_times ?F_times ?m_divided ?F_divided ?m_over ?F_over ?m_order ?F_order ?m_compared ?F_compared ?m_total ?F_total ?m_sum_of ?F_sum_of ?m_fraction ?F_fraction ?m_caught ?F_caught ?m_refused ?F_refused ?m_is_from_zero ?F_is_from_zero ?m_is_share ?F_is_share ?m_refusals ?F_refusals ?m_same ?F_same ?m_told ?F_told ?m_quotient ?F_quotient ?m_worked ?F_worked ?m_made ?F_made ?m_sum ?F_sum ?m_right ?F_right ?m_jug ?F_jug ?m_law ?F_law ?c_CaskError ?c_InvalidFraction ?c_InvalidNumber ?o_InvalidNumber ?j_InvalidNumber ?y_InvalidNumber ?v_InvalidNumber ?o_InvalidFraction ?j_InvalidFraction ?y_InvalidFraction ?v_InvalidFraction ?F_init ?t_init ?n_ValueError ?v_ValueError ?i_InvalidNumber_InvalidFraction ?i_InvalidFraction_InvalidFraction ?i_InvalidNumber_InvalidNumber ?i_InvalidFraction_InvalidNumber ?x_InvalidNumber_CaskError ?x_InvalidFraction_CaskError ?c_ZERO ?l_ZERO ?r_ZERO ?y_ZERO ?n_gcd ?n_abs ?n_all ?n_bool ?n_int ?n_isinstance ?n_len ?n_list ?n_max ?n_range ?n_repr ?n_tuple) hmg
    (case m_drop => k_is)
    (case F_drop => (refine' L2.fun_mk ?l ?c ?k; (case l => k_is); (case c => k_is); (case k => k_is)))
    (case m_size => k_is)
    (case F_size => (refine' L2.fun_mk ?l ?c ?k; (case l => k_is); (case c => k_is); (case k => k_is)))
    (case m_low => k_is)
    (case F_low => (refine' L2.fun_mk ?l ?c ?k; (case l => k_is); (case c => k_is); (case k => k_is)))
    (case m_draw => k_is)
    (case F_draw => (refine' L2.fun_mk ?l ?c ?k; (case l => k_is); (case c => k_is); (case k => k_is)))
    (case m_second => k_is)
    (case F_second => (refine' L2.fun_mk ?l ?c ?k; (case l => k_is); (case c => k_is); (case k => k_is)))
    (case m_odd => k_is)
    (case F_odd => (refine' L2.fun_mk ?l ?c ?k; (case l => k_is); (case c => k_is); (case k => k_is)))
    (case m_is_integer => k_is)
    (case F_is_integer => (refine' L2.fun_mk ?l ?c ?k; (case l => k_is); (case c => k_is); (case k => k_is)))
    (case m_is_fraction => k_is)
    (case F_is_fraction => (refine' L2.fun_mk ?l ?c ?k; (case l => k_is); (case c => k_is); (case k => k_is)))
    (case m_built_anew => k_is)
    (case F_built_anew => (refine' L2.fun_mk ?l ?c ?k; (case l => k_is); (case c => k_is); (case k => k_is)))
    (case m_check_fraction => k_is)
    (case F_check_fraction => (refine' L2.fun_mk ?l ?c ?k; (case l => k_is); (case c => k_is); (case k => k_is)))
    (case m_reduced => k_is)
    (case F_reduced => (refine' L2.fun_mk ?l ?c ?k; (case l => k_is); (case c => k_is); (case k => k_is)))
    (case m_added => k_is)
    (case F_added => (refine' L2.fun_mk ?l ?c ?k; (case l => k_is); (case c => k_is); (case k => k_is)))
    (case m_plus => k_is)
    (case F_plus => (refine' L2.fun_mk ?l ?c ?k; (case l => k_is); (case c => k_is); (case k => k_is)))
    (case m_lessened => k_is)
    (case F_lessened => (refine' L2.fun_mk ?l ?c ?k; (case l => k_is); (case c => k_is); (case k => k_is)))
    (case m_less => k_is)
    (case F_less => (refine' L2.fun_mk ?l ?c ?k; (case l => k_is); (case c => k_is); (case k => k_is)))
    (case m_multiplied => k_is)
    (case F_multiplied => (refine' L2.fun_mk ?l ?c ?k; (case l => k_is); (case c => k_is); (case k => k_is)))
    (case m_times => k_is)
    (case F_times => (refine' L2.fun_mk ?l ?c ?k; (case l => k_is); (case c => k_is); (case k => k_is)))
    (case m_divided => k_is)
    (case F_divided => (refine' L2.fun_mk ?l ?c ?k; (case l => k_is); (case c => k_is); (case k => k_is)))
    (case m_over => k_is)
    (case F_over => (refine' L2.fun_mk ?l ?c ?k; (case l => k_is); (case c => k_is); (case k => k_is)))
    (case m_order => k_is)
    (case F_order => (refine' L2.fun_mk ?l ?c ?k; (case l => k_is); (case c => k_is); (case k => k_is)))
    (case m_compared => k_is)
    (case F_compared => (refine' L2.fun_mk ?l ?c ?k; (case l => k_is); (case c => k_is); (case k => k_is)))
    (case m_total => k_is)
    (case F_total => (refine' L2.fun_mk ?l ?c ?k; (case l => k_is); (case c => k_is); (case k => k_is)))
    (case m_sum_of => k_is)
    (case F_sum_of => (refine' L2.fun_mk ?l ?c ?k; (case l => k_is); (case c => k_is); (case k => k_is)))
    (case m_fraction => k_is)
    (case F_fraction => (refine' L2.fun_mk ?l ?c ?k; (case l => k_is); (case c => k_is); (case k => k_is)))
    (case m_caught => k_is)
    (case F_caught => (refine' L2.fun_mk ?l ?c ?k; (case l => k_is); (case c => k_is); (case k => k_is)))
    (case m_refused => k_is)
    (case F_refused => (refine' L2.fun_mk ?l ?c ?k; (case l => k_is); (case c => k_is); (case k => k_is)))
    (case m_is_from_zero => k_is)
    (case F_is_from_zero => (refine' L2.fun_mk ?l ?c ?k; (case l => k_is); (case c => k_is); (case k => k_is)))
    (case m_is_share => k_is)
    (case F_is_share => (refine' L2.fun_mk ?l ?c ?k; (case l => k_is); (case c => k_is); (case k => k_is)))
    (case m_refusals => k_is)
    (case F_refusals => (refine' L2.fun_mk ?l ?c ?k; (case l => k_is); (case c => k_is); (case k => k_is)))
    (case m_same => k_is)
    (case F_same => (refine' L2.fun_mk ?l ?c ?k; (case l => k_is); (case c => k_is); (case k => k_is)))
    (case m_told => k_is)
    (case F_told => (refine' L2.fun_mk ?l ?c ?k; (case l => k_is); (case c => k_is); (case k => k_is)))
    (case m_quotient => k_is)
    (case F_quotient => (refine' L2.fun_mk ?l ?c ?k; (case l => k_is); (case c => k_is); (case k => k_is)))
    (case m_worked => k_is)
    (case F_worked => (refine' L2.fun_mk ?l ?c ?k; (case l => k_is); (case c => k_is); (case k => k_is)))
    (case m_made => k_is)
    (case F_made => (refine' L2.fun_mk ?l ?c ?k; (case l => k_is); (case c => k_is); (case k => k_is)))
    (case m_sum => k_is)
    (case F_sum => (refine' L2.fun_mk ?l ?c ?k; (case l => k_is); (case c => k_is); (case k => k_is)))
    (case m_right => k_is)
    (case F_right => (refine' L2.fun_mk ?l ?c ?k; (case l => k_is); (case c => k_is); (case k => k_is)))
    (case m_jug => k_is)
    (case F_jug => (refine' L2.fun_mk ?l ?c ?k; (case l => k_is); (case c => k_is); (case k => k_is)))
    (case m_law => k_is)
    (case F_law => (refine' L2.fun_mk ?l ?c ?k; (case l => k_is); (case c => k_is); (case k => k_is)))
    (case c_CaskError => k_is)
    (case c_InvalidFraction => k_is)
    (case c_InvalidNumber => k_is)
    (case o_InvalidNumber => (refine' MI.oexC_mk ?l ?r ?s ?e ?t ?k; (case l => k_is); (case r => decide +kernel); (case s => k_is); (case e => k_is); (case t => k_is); (case k => k_is)))
    (case j_InvalidNumber => k_is)
    (case y_InvalidNumber => (refine' ⟨?q1, ?q2, ?q3, ?q4, ?q5, ?q6, ?q7, ?q8⟩; (case q1 => k_is); (case q2 => k_is); (case q3 => k_is); (case q4 => k_is); (case q5 => k_is); (case q6 => k_is); (case q7 => k_is); (case q8 => k_is)))
    (case v_InvalidNumber => k_is)
    (case o_InvalidFraction => (refine' MI.oexC_mk ?l ?r ?s ?e ?t ?k; (case l => k_is); (case r => decide +kernel); (case s => k_is); (case e => k_is); (case t => k_is); (case k => k_is)))
    (case j_InvalidFraction => k_is)
    (case y_InvalidFraction => (refine' ⟨?q1, ?q2, ?q3, ?q4, ?q5, ?q6, ?q7, ?q8⟩; (case q1 => k_is); (case q2 => k_is); (case q3 => k_is); (case q4 => k_is); (case q5 => k_is); (case q6 => k_is); (case q7 => k_is); (case q8 => k_is)))
    (case v_InvalidFraction => k_is)
    (case F_init => (refine' L2.fun_mk ?l ?c ?k; (case l => k_is); (case c => k_is); (case k => k_is)))
    (case t_init => k_is)
    (case n_ValueError => k_is)
    (case v_ValueError => k_is)
    (case i_InvalidNumber_InvalidFraction => (refine' MI.kit_mk ?n ?i ?t ?s; (case n => decide); (case i => k_is); (case t => k_is); (case s => k_is)))
    (case i_InvalidFraction_InvalidFraction => exact MI.kit_self)
    (case i_InvalidNumber_InvalidNumber => exact MI.kit_self)
    (case i_InvalidFraction_InvalidNumber => (refine' MI.kit_mk ?n ?i ?t ?s; (case n => decide); (case i => k_is); (case t => k_is); (case s => k_is)))
    (case x_InvalidNumber_CaskError => (refine' MI.exm_mk ?b ?i ?t ?s; (case b => k_is); (case i => k_is); (case t => k_is); (case s => k_is)))
    (case x_InvalidFraction_CaskError => (refine' MI.exm_mk ?b ?i ?t ?s; (case b => k_is); (case i => k_is); (case t => k_is); (case s => k_is)))
    (case c_ZERO => k_is)
    (case l_ZERO => k_is)
    (case r_ZERO => exact .cons ⟨_, rfl⟩ (.cons ⟨_, rfl⟩ (.nil)))
    (case y_ZERO => decide)
    (case n_gcd => k_is)
    (case n_abs => k_is)
    (case n_all => k_is)
    (case n_bool => k_is)
    (case n_int => k_is)
    (case n_isinstance => k_is)
    (case n_len => k_is)
    (case n_list => k_is)
    (case n_max => k_is)
    (case n_range => k_is)
    (case n_repr => k_is)
    (case n_tuple => k_is)

