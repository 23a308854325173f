import PyProof.Rows.All
import Wide.All
import OpenK.AllK
import Wide.FinOn
import PySem.Challenge.RW_caskyears_k02_tables_one_behind_the_othe
import HandS.ForMost
import HandS.ForExc
import HandS.ExcInit
import HandS.ExcField
import HandS.Gcd
import HandS.Wide
import HandS.IsInst
import HandS.Style
import HandS.CallSlots
import HandS.TupAny
import HandS.TupMul
import HandS.ExcIs
import HandS.ExcValue
import HandS.EndBits
import HandS.WideBits
import HandS.Zip
set_option Elab.async false
set_option linter.all false
set_option maxRecDepth 100000
/-! # A store of lists beside the values: programs as Lean functions, and the judgement that a piece of the text does what its function says -/
namespace MI
open PySem PySem.Spec PyProof.Rows L2

/-- values: a list, a dict, an exception is a place in the store -/
inductive D where
  | non | bl (b : Bool) | int (i : Int) | str (x : Str) | tup (xs : List D) | ref (i : Nat) | fro (xs : List D)
inductive Cell where
  | lst (xs : List D) | dct (kvs : List (Key × D)) | exc (c : Str) (v : D)
abbrev Store := List Cell
abbrev Sl := List (Option D)
inductive Res (α : Type) where
  | ok (a : α) (S : Store) | exc (c : Str) (v : D) (S : Store) | no
/-- a computation at slots and a store -/
abbrev M (α : Type) := Sl → Store → Res α

/-- a list that is locked, or of the written part -/
def SqF (K : PySem.W.Frag) (H : Hp) (a : Addr) (xs : List V) : Prop :=
  (∃ o, H a = some (.frz o (.lst xs))) ∨ ∃ (o : Obj) (its : Array Value) (n : Nat), K.lookup a = some o ∧ o.cls = .type "list" ∧ o.dict = none ∧ o.data = .seq its n ∧ its.size ≤ sizeLine ∧ Vals xs its.toList
theorem SqF.sql {K : PySem.W.Frag} {H : Hp} {a : Addr} {xs : List V} (h : SqF K H a xs) : SqL K H a xs := h.imp (fun h => .inr h) fun h => h
mutual
inductive RD (K : PySem.W.Frag) (ι : List Addr) (H : Hp) : D → V → Prop
  | non : RD K ι H .non .non
  | bl (b : Bool) : RD K ι H (.bl b) (.bl b)
  | int (i : Int) : RD K ι H (.int i) (.int i)
  | str (x : Str) : RD K ι H (.str x) (.str x)
  | tup {xs : List D} {vs : List V} {a : Addr} (h : SqT K H a vs) (r : RDs K ι H xs vs) : RD K ι H (.tup xs) (.ref a)
  | ref {i : Nat} {a : Addr} (h : ι[i]? = some a) : RD K ι H (.ref i) (.ref a)
  | fro {xs : List D} {vs : List V} {a : Addr} (h : SqF K H a vs) (r : RDs K ι H xs vs) : RD K ι H (.fro xs) (.ref a)
inductive RDs (K : PySem.W.Frag) (ι : List Addr) (H : Hp) : List D → List V → Prop
  | nil : RDs K ι H [] []
  | cons {d : D} {v : V} {ds : List D} {vs : List V} (h : RD K ι H d v) (r : RDs K ι H ds vs) : RDs K ι H (d :: ds) (v :: vs)
end

/-- what lasts: the places, all that is no place, the tuples, what is locked; new places were free -/
structure Ext (ι : List Addr) (H : Hp) (ι' : List Addr) (H' : Hp) : Prop where
  pre : ∃ t, ι' = ι ++ t
  new : ∀ a, a ∈ ι' → a ∈ ι ∨ H a = none
  keep : ∀ a o, H a = some o → a ∉ ι → H' a = some o
  tups : ∀ a vs, H a = some (.tup vs) → H' a = some (.tup vs)
  frzs : ∀ a o u, H a = some (.frz o u) → H' a = some (.frz o u)
theorem Ext.refl (ι : List Addr) (H : Hp) : Ext ι H ι H := ⟨⟨[], by simp⟩, fun _ h => .inl h, fun _ _ h _ => h, fun _ _ h => h, fun _ _ _ h => h⟩
theorem Ext.trans {ι ι1 ι2 : List Addr} {H H1 H2 : Hp} (a : Ext ι H ι1 H1) (b : Ext ι1 H1 ι2 H2) : Ext ι H ι2 H2 := by
  obtain ⟨⟨t, e⟩, a0, ak, a1, a2⟩ := a
  obtain ⟨⟨u, e'⟩, b0, bk, b1, b2⟩ := b
  refine ⟨⟨t ++ u, by rw [e', e, List.append_assoc]⟩, fun x hx => ?_, fun x o h hn => ?_, fun x vs h => b1 x vs (a1 x vs h), fun x o u h => b2 x o u (a2 x o u h)⟩
  · rcases b0 x hx with h | h
    · exact a0 x h
    · by_cases hi : x ∈ ι
      · exact .inl hi
      · refine .inr ?_
        cases q : H x with
        | none => rfl
        | some o => rw [ak x o q hi] at h; cases h
  · refine bk x o (ak x o h hn) fun hx => ?_
    rcases a0 x hx with z | z
    · exact hn z
    · rw [h] at z; cases z
theorem Ext.at {ι ι1 : List Addr} {H H1 : Hp} (a : Ext ι H ι1 H1) {i : Nat} {x : Addr} (h : ι[i]? = some x) : ι1[i]? = some x := by
  obtain ⟨t, e⟩ := a.pre
  have : i < ι.length := (List.getElem?_eq_some_iff.mp h).1
  rw [e, List.getElem?_append_left this]; exact h
theorem Ext.sqT {K : PySem.W.Frag} {ι ι1 : List Addr} {H H1 : Hp} (x : Ext ι H ι1 H1) {a : Addr} {vs : List V} (h : SqT K H a vs) : SqT K H1 a vs := by
  rcases h with (h | ⟨o, h⟩) | h
  · exact .inl (.inl (x.tups _ _ h))
  · exact .inl (.inr ⟨o, x.frzs _ _ _ h⟩)
  · exact .inr h
/-- a new object -/
theorem Ext.new1 {ι : List Addr} {H : Hp} {p : Addr} {o : HO} (h : H p = none) : Ext ι H (ι ++ [p]) (upd H p o) :=
  ⟨⟨_, rfl⟩, fun a ha => (List.mem_append.mp ha).imp (fun z => z) fun z => by
      have e : a = p := by simpa using z
      rw [e]; exact h,
    fun a o e _ => by rw [upd_ne (ne_of_none e h)]; exact e, fun a vs e => by rw [upd_ne (ne_of_none e h)]; exact e, fun a o u e => by rw [upd_ne (ne_of_none e h)]; exact e⟩
theorem Ext.new0 {ι : List Addr} {H : Hp} {p : Addr} {o : HO} (h : H p = none) : Ext ι H ι (upd H p o) :=
  ⟨⟨[], by simp⟩, fun a ha => .inl ha, fun a o e _ => by rw [upd_ne (ne_of_none e h)]; exact e, fun a vs e => by rw [upd_ne (ne_of_none e h)]; exact e, fun a o u e => by rw [upd_ne (ne_of_none e h)]; exact e⟩

/-- what values lean on -/
structure Mo (ι : List Addr) (H : Hp) (ι' : List Addr) (H' : Hp) : Prop where
  pre : ∃ t, ι' = ι ++ t
  tups : ∀ a vs, H a = some (.tup vs) → H' a = some (.tup vs)
  frzs : ∀ a o u, H a = some (.frz o u) → H' a = some (.frz o u)
theorem Ext.mo {ι ι1 : List Addr} {H H1 : Hp} (x : Ext ι H ι1 H1) : Mo ι H ι1 H1 := ⟨x.pre, x.tups, x.frzs⟩
theorem Mo.trans {ι ι1 ι2 : List Addr} {H H1 H2 : Hp} (a : Mo ι H ι1 H1) (b : Mo ι1 H1 ι2 H2) : Mo ι H ι2 H2 := by
  obtain ⟨⟨t, e⟩, a1, a2⟩ := a
  obtain ⟨⟨u, e'⟩, b1, b2⟩ := b
  exact ⟨⟨t ++ u, by rw [e', e, List.append_assoc]⟩, fun x vs h => b1 x vs (a1 x vs h), fun x o u h => b2 x o u (a2 x o u h)⟩
theorem Mo.at {ι ι1 : List Addr} {H H1 : Hp} (a : Mo ι H ι1 H1) {i : Nat} {x : Addr} (h : ι[i]? = some x) : ι1[i]? = some x := by
  obtain ⟨t, e⟩ := a.pre
  have : i < ι.length := (List.getElem?_eq_some_iff.mp h).1
  rw [e, List.getElem?_append_left this]; exact h
theorem Mo.sqT {K : PySem.W.Frag} {ι ι1 : List Addr} {H H1 : Hp} (x : Mo ι H ι1 H1) {a : Addr} {vs : List V} (h : SqT K H a vs) : SqT K H1 a vs := by
  rcases h with (h | ⟨o, h⟩) | h
  · exact .inl (.inl (x.tups _ _ h))
  · exact .inl (.inr ⟨o, x.frzs _ _ _ h⟩)
  · exact .inr h
theorem Mo.sqF {K : PySem.W.Frag} {ι ι1 : List Addr} {H H1 : Hp} (x : Mo ι H ι1 H1) {a : Addr} {vs : List V} (h : SqF K H a vs) : SqF K H1 a vs := h.imp (fun ⟨o, h⟩ => ⟨o, x.frzs _ _ _ h⟩) fun h => h
mutual
theorem RD.monoM {K : PySem.W.Frag} {ι ι1 : List Addr} {H H1 : Hp} (x : Mo ι H ι1 H1) : ∀ {d : D} {v : V}, RD K ι H d v → RD K ι1 H1 d v
  | _, _, .non => .non
  | _, _, .bl b => .bl b
  | _, _, .int i => .int i
  | _, _, .str z => .str z
  | _, _, .tup h r => .tup (x.sqT h) (RDs.monoM x r)
  | _, _, .ref h => .ref (x.at h)
  | _, _, .fro h r => .fro (x.sqF h) (RDs.monoM x r)
theorem RDs.monoM {K : PySem.W.Frag} {ι ι1 : List Addr} {H H1 : Hp} (x : Mo ι H ι1 H1) : ∀ {ds : List D} {vs : List V}, RDs K ι H ds vs → RDs K ι1 H1 ds vs
  | _, _, .nil => .nil
  | _, _, .cons h r => .cons (RD.monoM x h) (RDs.monoM x r)
end
theorem RD.mono {K : PySem.W.Frag} {ι ι1 : List Addr} {H H1 : Hp} (x : Ext ι H ι1 H1) {d : D} {v : V} (r : RD K ι H d v) : RD K ι1 H1 d v := RD.monoM x.mo r
theorem RDs.mono {K : PySem.W.Frag} {ι ι1 : List Addr} {H H1 : Hp} (x : Ext ι H ι1 H1) {d : List D} {v : List V} (r : RDs K ι H d v) : RDs K ι1 H1 d v := RDs.monoM x.mo r
theorem RDs.length {K : PySem.W.Frag} {ι : List Addr} {H : Hp} : ∀ {ds : List D} {vs : List V}, RDs K ι H ds vs → ds.length = vs.length
  | _, _, .nil => rfl
  | _, _, .cons _ r => by rw [List.length_cons, List.length_cons, RDs.length r]
theorem RDs.get {K : PySem.W.Frag} {ι : List Addr} {H : Hp} : ∀ {ds : List D} {vs : List V} {i : Nat} {d : D}, RDs K ι H ds vs → ds[i]? = some d → ∃ v, vs[i]? = some v ∧ RD K ι H d v
  | _, _, _, _, .nil, h => by simp at h
  | _, _, 0, d, .cons h r, e => by simp at e; subst e; exact ⟨_, rfl, h⟩
  | _, _, i + 1, d, .cons h r, e => by
    obtain ⟨v, a, b⟩ := RDs.get (i := i) (d := d) r (by simpa using e)
    exact ⟨v, by simpa using a, b⟩
theorem RDs.app {K : PySem.W.Frag} {ι : List Addr} {H : Hp} : ∀ {ds es : List D} {vs us : List V}, RDs K ι H ds vs → RDs K ι H es us → RDs K ι H (ds ++ es) (vs ++ us)
  | _, _, _, _, .nil, s => s
  | _, _, _, _, .cons h r, s => .cons h (RDs.app r s)
theorem RDs.set {K : PySem.W.Frag} {ι : List Addr} {H : Hp} {d : D} {v : V} (q : RD K ι H d v) : ∀ {ds : List D} {vs : List V} (i : Nat), RDs K ι H ds vs → RDs K ι H (ds.set i d) (vs.set i v)
  | _, _, _, .nil => .nil
  | _, _, 0, .cons _ r => .cons q r
  | _, _, i + 1, .cons h r => .cons h (RDs.set q i r)
theorem RDs.take {K : PySem.W.Frag} {ι : List Addr} {H : Hp} : ∀ {ds : List D} {vs : List V} (n : Nat), RDs K ι H ds vs → RDs K ι H (ds.take n) (vs.take n)
  | _, _, 0, _ => .nil
  | _, _, _ + 1, .nil => .nil
  | _, _, n + 1, .cons h r => .cons h (RDs.take n r)
theorem RDs.drop {K : PySem.W.Frag} {ι : List Addr} {H : Hp} : ∀ {ds : List D} {vs : List V} (n : Nat), RDs K ι H ds vs → RDs K ι H (ds.drop n) (vs.drop n)
  | _, _, 0, r => r
  | _, _, _ + 1, .nil => .nil
  | _, _, n + 1, .cons _ r => RDs.drop n r
theorem RDs.snoc {K : PySem.W.Frag} {ι : List Addr} {H : Hp} {ds : List D} {vs : List V} {d : D} {v : V} (r : RDs K ι H ds vs) (h : RD K ι H d v) : RDs K ι H (ds ++ [d]) (vs ++ [v]) := r.app (.cons h .nil)

def RKV (K : PySem.W.Frag) (ι : List Addr) (H : Hp) : List (Key × D) → List (Key × V) → Prop := Paired fun p q => p.1 = q.1 ∧ RD K ι H p.2 q.2
theorem RKV.monoM {K : PySem.W.Frag} {ι ι1 : List Addr} {H H1 : Hp} (x : Mo ι H ι1 H1) {l : List (Key × D)} {l' : List (Key × V)} (r : RKV K ι H l l') : RKV K ι1 H1 l l' := Paired.mapP r fun _ _ h => ⟨h.1, h.2.monoM x⟩
theorem RKV.mono {K : PySem.W.Frag} {ι ι1 : List Addr} {H H1 : Hp} (x : Ext ι H ι1 H1) {l : List (Key × D)} {l' : List (Key × V)} (r : RKV K ι H l l') : RKV K ι1 H1 l l' := RKV.monoM x.mo r

/-- the exception object at a, its class at C, its dict at dd -/
def EXO (C dd a : Addr) : HO := .ext fun h => ∃ (oe : Obj) (vs : Array Value), h.get? a = some oe ∧ oe.cls = .ref C ∧ oe.dict = some dd ∧ oe.data = .fields vs
def CellOk (K : PySem.W.Frag) (mg : Str → Option Value) (ι : List Addr) (H : Hp) (a : Addr) : Cell → Prop
  | .lst xs => ∃ vs, H a = some (.lst vs) ∧ RDs K ι H xs vs
  | .dct kvs => ∃ ws, H a = some (.dK ws) ∧ RKV K ι H kvs ws
  | .exc c v => ∃ C dd fs u, mg c = some (.ref C) ∧ H a = some (EXO C dd a) ∧ H dd = some (.xd fs) ∧ fs.lookup ("value" : Str) = some u ∧ RD K ι H v u
/-- the store stands in the heap at the places -/
structure RS (K : PySem.W.Frag) (mg : Str → Option Value) (ι : List Addr) (S : Store) (H : Hp) : Prop where
  len : S.length = ι.length
  nd : ι.Nodup
  at_ : ∀ (i : Nat) (c : Cell) (a : Addr), S[i]? = some c → ι[i]? = some a → CellOk K mg ι H a c
theorem RS.get {K : PySem.W.Frag} {mg : Str → Option Value} {ι : List Addr} {S : Store} {H : Hp} (r : RS K mg ι S H) {i : Nat} {c : Cell} (h : S[i]? = some c) : ∃ a, ι[i]? = some a ∧ CellOk K mg ι H a c := by
  have hi : i < S.length := (List.getElem?_eq_some_iff.mp h).1
  have : i < ι.length := by rw [← r.len]; exact hi
  exact ⟨ι[i], List.getElem?_eq_getElem this, r.at_ i c _ h (List.getElem?_eq_getElem this)⟩
theorem RS.get' {K : PySem.W.Frag} {mg : Str → Option Value} {ι : List Addr} {S : Store} {H : Hp} (r : RS K mg ι S H) {i : Nat} {c : Cell} {a : Addr} (h : S[i]? = some c) (ha : ι[i]? = some a) : CellOk K mg ι H a c := r.at_ i c a h ha
/-- the objects of cells are written ones -/
theorem CellOk.kind {K : PySem.W.Frag} {mg : Str → Option Value} {ι : List Addr} {H : Hp} {a : Addr} {c : Cell} (h : CellOk K mg ι H a c) : ∃ o, H a = some o ∧ ((∃ x, o = .lst x) ∨ (∃ x, o = .dK x) ∨ ∃ x, o = .ext x) := by
  cases c with
  | lst xs => obtain ⟨vs, e, _⟩ := h; exact ⟨_, e, .inl ⟨_, rfl⟩⟩
  | dct kvs => obtain ⟨vs, e, _⟩ := h; exact ⟨_, e, .inr (.inl ⟨_, rfl⟩)⟩
  | exc c v => obtain ⟨_, _, _, _, _, e, _⟩ := h; exact ⟨_, e, .inr (.inr ⟨_, rfl⟩)⟩
/-- what a cell leans on: its own object, what lasts, and an exception's dict -/
theorem CellOk.move {K : PySem.W.Frag} {mg : Str → Option Value} {ι ι1 : List Addr} {H H1 : Hp} {a : Addr} {c : Cell} (x : Mo ι H ι1 H1) (ha : ∀ o, H a = some o → H1 a = some o) (hd : ∀ b fs, H b = some (.xd fs) → H1 b = some (.xd fs)) (h : CellOk K mg ι H a c) : CellOk K mg ι1 H1 a c := by
  cases c with
  | lst xs => obtain ⟨vs, e, r⟩ := h; exact ⟨vs, ha _ e, r.monoM x⟩
  | dct kvs => obtain ⟨ws, e, r⟩ := h; exact ⟨ws, ha _ e, RKV.monoM x r⟩
  | exc c v => obtain ⟨C, dd, fs, u, e1, e2, e3, e4, r⟩ := h; exact ⟨C, dd, fs, u, e1, ha _ e2, hd _ _ e3, e4, r.monoM x⟩
/-- a new object beside -/
theorem RS.new0 {K : PySem.W.Frag} {mg : Str → Option Value} {ι : List Addr} {S : Store} {H : Hp} {p : Addr} {o : HO} (r : RS K mg ι S H) (h : H p = none) : RS K mg ι S (upd H p o) :=
  ⟨r.len, r.nd, fun i c a e1 e2 => (r.at_ i c a e1 e2).move (Ext.new0 h).mo (fun o e => by rw [upd_ne (ne_of_none e h)]; exact e) fun b fs e => by rw [upd_ne (ne_of_none e h)]; exact e⟩
theorem RS.fresh {K : PySem.W.Frag} {mg : Str → Option Value} {ι : List Addr} {S : Store} {H : Hp} {p : Addr} (r : RS K mg ι S H) (h : H p = none) : p ∉ ι := fun hp => by
  obtain ⟨i, hi, e⟩ := List.getElem_of_mem hp
  have hS : i < S.length := by rw [r.len]; exact hi
  obtain ⟨o, e1, _⟩ := (r.at_ i S[i] p (List.getElem?_eq_getElem hS) (by rw [← e]; exact List.getElem?_eq_getElem hi)).kind
  rw [h] at e1; cases e1
/-- a new cell -/
theorem RS.push {K : PySem.W.Frag} {mg : Str → Option Value} {ι : List Addr} {S : Store} {H : Hp} {p : Addr} {o : HO} {c : Cell} (r : RS K mg ι S H) (h : H p = none) (hc : CellOk K mg (ι ++ [p]) (upd H p o) p c) : RS K mg (ι ++ [p]) (S ++ [c]) (upd H p o) := by
  have hn := r.fresh h
  refine ⟨by simp [r.len], ?_, fun i c' a e1 e2 => ?_⟩
  · rw [List.nodup_append]
    refine ⟨r.nd, by simp, fun a ha b hb => ?_⟩
    have : b = p := by simpa using hb
    subst this
    exact fun e => hn (e ▸ ha)
  · by_cases hi : i < S.length
    · rw [List.getElem?_append_left hi] at e1
      rw [List.getElem?_append_left (by rw [← r.len]; exact hi)] at e2
      exact (r.at_ i c' a e1 e2).move (Ext.new1 h).mo (fun o e => by rw [upd_ne (ne_of_none e h)]; exact e) fun b fs e => by rw [upd_ne (ne_of_none e h)]; exact e
    · have e : i = S.length := by
        have h1 := (List.getElem?_eq_some_iff.mp e1).1
        rw [List.length_append, List.length_singleton] at h1
        omega
      subst e
      rw [List.getElem?_append_right (Nat.le_refl _), Nat.sub_self] at e1
      rw [List.getElem?_append_right (by rw [r.len]; exact Nat.le_refl _), r.len, Nat.sub_self] at e2
      simp at e1 e2
      subst e1; subst e2
      exact hc
theorem Ext.put {ι : List Addr} {H : Hp} {i : Nat} {p : Addr} {o o' : HO} (hp : ι[i]? = some p) (ho : H p = some o') (hk : (∀ x, o' ≠ .tup x) ∧ (∀ x y, o' ≠ .frz x y) ∧ ∀ x, o' ≠ .xd x) : Ext ι H ι (upd H p o) :=
  ⟨⟨[], by simp⟩, fun a ha => .inl ha, fun a o1 e hn => by rw [upd_ne (fun z => hn (by rw [z]; exact List.mem_of_getElem? hp))]; exact e, fun a vs e => by rw [upd_ne (fun z => hk.1 vs (by rw [z, ho] at e; exact Option.some.inj e))]; exact e,
    fun a o1 u e => by rw [upd_ne (fun z => hk.2.1 o1 u (by rw [z, ho] at e; exact Option.some.inj e))]; exact e⟩
/-- a cell is written -/
theorem RS.put {K : PySem.W.Frag} {mg : Str → Option Value} {ι : List Addr} {S : Store} {H : Hp} {i : Nat} {p : Addr} {o o' : HO} {c : Cell} (r : RS K mg ι S H) (hp : ι[i]? = some p) (ho : H p = some o') (hk : (∀ x, o' ≠ .tup x) ∧ (∀ x y, o' ≠ .frz x y) ∧ ∀ x, o' ≠ .xd x)
    (hc : CellOk K mg ι (upd H p o) p c) : RS K mg ι (S.set i c) (upd H p o) ∧ Ext ι H ι (upd H p o) := by
  have x : Ext ι H ι (upd H p o) := Ext.put hp ho hk
  refine ⟨⟨by simpa using r.len, r.nd, fun j c' a e1 e2 => ?_⟩, x⟩
  by_cases hj : j = i
  · subst hj
    rw [hp] at e2; cases e2
    have hl : j < S.length := by rw [r.len]; exact (List.getElem?_eq_some_iff.mp hp).1
    rw [List.getElem?_set_self hl] at e1
    cases e1
    exact hc
  · rw [List.getElem?_set_ne (Ne.symm hj)] at e1
    have ne : a ≠ p := fun z => hj (nd_ix r.nd (z ▸ e2) hp)
    exact (r.at_ j c' a e1 e2).move x.mo (fun o e => by rw [upd_ne ne]; exact e) fun b fs e => by rw [upd_ne (fun z => hk.2.2 fs (by rw [z, ho] at e; exact Option.some.inj e))]; exact e

/-- slots -/
structure RE (K : PySem.W.Frag) (ι : List Addr) (H : Hp) (ρ : Sl) (σ : L2.St) : Prop where
  len : ρ.length = σ.length
  at_ : ∀ (i : Nat) (d : D), ρ[i]? = some (some d) → ∃ v, σ[i]? = some (some v) ∧ RD K ι H d v
theorem RE.mono {K : PySem.W.Frag} {ι ι1 : List Addr} {H H1 : Hp} {ρ : Sl} {σ : L2.St} (x : Ext ι H ι1 H1) (r : RE K ι H ρ σ) : RE K ι1 H1 ρ σ :=
  ⟨r.len, fun i d e => let ⟨v, a, b⟩ := r.at_ i d e; ⟨v, a, b.mono x⟩⟩
theorem RE.set {K : PySem.W.Frag} {ι : List Addr} {H : Hp} {ρ : Sl} {σ : L2.St} {d : D} {v : V} (r : RE K ι H ρ σ) (i : Nat) (h : RD K ι H d v) : RE K ι H (ρ.set i (some d)) (σ.set i (some v)) := by
  refine ⟨by simpa using r.len, fun j d' e => ?_⟩
  by_cases hj : j = i
  · subst hj
    by_cases hl : j < ρ.length
    · rw [List.getElem?_set_self hl] at e
      cases e
      exact ⟨v, List.getElem?_set_self (by rw [← r.len]; exact hl), h⟩
    · rw [List.getElem?_eq_none (by simpa using hl)] at e; cases e
  · rw [List.getElem?_set_ne (Ne.symm hj)] at e
    obtain ⟨v', a, b⟩ := r.at_ j d' e
    exact ⟨v', by rw [List.getElem?_set_ne (Ne.symm hj)]; exact a, b⟩
theorem RE.clear {K : PySem.W.Frag} {ι : List Addr} {H : Hp} {ρ : Sl} {σ : L2.St} (r : RE K ι H ρ σ) (i : Nat) : RE K ι H (ρ.set i none) (σ.set i none) := by
  refine ⟨by simpa using r.len, fun j d' e => ?_⟩
  by_cases hj : j = i
  · subst hj
    by_cases hl : j < ρ.length
    · rw [List.getElem?_set_self hl] at e; cases e
    · rw [List.getElem?_eq_none (by simpa using hl)] at e; cases e
  · rw [List.getElem?_set_ne (Ne.symm hj)] at e
    obtain ⟨v', a, b⟩ := r.at_ j d' e
    exact ⟨v', by rw [List.getElem?_set_ne (Ne.symm hj)]; exact a, b⟩
/-- an object that is no place is written -/
theorem Mo.side {ι : List Addr} {H : Hp} {a : Addr} {vs vs' : List V} (h : H a = some (.lst vs)) : Mo ι H ι (upd H a (.lst vs')) :=
  ⟨⟨[], by simp⟩, fun b us e => by rw [upd_ne (fun z => by rw [z, h] at e; cases e)]; exact e, fun b o u e => by rw [upd_ne (fun z => by rw [z, h] at e; cases e)]; exact e⟩
theorem RS.side {K : PySem.W.Frag} {mg : Str → Option Value} {ι : List Addr} {S : Store} {H : Hp} {a : Addr} {vs vs' : List V} (r : RS K mg ι S H) (h : H a = some (.lst vs)) (n : a ∉ ι) : RS K mg ι S (upd H a (.lst vs')) :=
  ⟨r.len, r.nd, fun i c b e1 e2 => (r.at_ i c b e1 e2).move (Mo.side h) (fun o e => by rw [upd_ne (show b ≠ a from fun z => n (by rw [← z]; exact List.mem_of_getElem? e2))]; exact e) fun b fs e => by rw [upd_ne (fun z => by rw [z, h] at e; cases e)]; exact e⟩
theorem Ext.side {ι ι' : List Addr} {H H' : Hp} {a : Addr} {o : HO} (x : Ext ι H ι' H') (h : H a = none) : Ext ι H ι' (upd H' a o) :=
  ⟨x.pre, x.new, fun b o e n => by rw [upd_ne (ne_of_none e h)]; exact x.keep b o e n, fun b vs e => by rw [upd_ne (ne_of_none e h)]; exact x.tups b vs e, fun b o u e => by rw [upd_ne (ne_of_none e h)]; exact x.frzs b o u e⟩
theorem Ext.stays {ι ι' : List Addr} {H H' : Hp} {a : Addr} {o : HO} (x : Ext ι H ι' H') (h : H a = some o) (n : a ∉ ι) : H' a = some o ∧ a ∉ ι' := ⟨x.keep a o h n, fun z => by
  rcases x.new a z with q | q
  · exact n q
  · rw [h] at q; cases q⟩
end MI

set_option Elab.async false
set_option linter.all false
set_option maxRecDepth 100000
namespace MI
open PySem PySem.Spec PyProof.Rows L2

def Res.bind {α β : Type} (r : Res α) (k : α → Store → Res β) : Res β := match r with
  | .ok a S => k a S
  | .exc c v S => .exc c v S
  | .no => .no
/-- what is wanted of a result: R tells how its value lies -/
def FinG {α β : Type} (K : PySem.W.Frag) (mg : Str → Option Value) (W : WX) (R : List Addr → Hp → α → β → Prop) (σ : L2.St) (ι : List Addr) (H : Hp) (r : Res α) (Q : β → Hp → Prop) : Prop := match r with
  | .ok a S => ∀ ι' H' v, Ext ι H ι' H' → RS K mg ι' S H' → R ι' H' a v → Q v H'
  | .exc c d S => ∀ ι' H' C dd fs u, Ext ι H ι' H' → RS K mg ι' S H' → mg c = some (.ref C) → H' dd = some (.xd fs) → fs.lookup ("value" : Str) = some u → RD K ι' H' d u → W (.ref C) (some dd) σ H'
  | .no => False
section
variable {K : PySem.W.Frag} {mg : Str → Option Value} {W : WX} {α β γ δ : Type} {R : List Addr → Hp → α → β → Prop} {R2 : List Addr → Hp → γ → δ → Prop} {σ : L2.St} {ι ι1 : List Addr} {H H1 : Hp}
theorem FinG.weak {r : Res α} {Q : β → Hp → Prop} (x : Ext ι H ι1 H1) (h : FinG K mg W R σ ι H r Q) : FinG K mg W R σ ι1 H1 r Q := by
  cases r with
  | ok a S => exact fun ι' H' v y rs rd => h ι' H' v (x.trans y) rs rd
  | exc c d S => exact fun ι' H' C dd fs u y => h ι' H' C dd fs u (x.trans y)
  | no => exact h
theorem FinG.imp {r : Res α} {Q Q' : β → Hp → Prop} (h : FinG K mg W R σ ι H r Q) (q : ∀ v H, Q v H → Q' v H) : FinG K mg W R σ ι H r Q' := by
  cases r with
  | ok a S => exact fun ι' H' v y rs rd => q _ _ (h ι' H' v y rs rd)
  | exc c d S => exact h
  | no => exact h
theorem FinG.bind {r : Res α} {k : α → Store → Res γ} {Q : δ → Hp → Prop} (h : FinG K mg W R2 σ ι H (r.bind k) Q) :
    FinG K mg W R σ ι H r (fun x H1 => ∃ a S1 ι1, Ext ι H ι1 H1 ∧ RS K mg ι1 S1 H1 ∧ R ι1 H1 a x ∧ FinG K mg W R2 σ ι1 H1 (k a S1) Q) := by
  cases r with
  | ok a S => exact fun ι' H' v y rs rd => ⟨a, S, ι', y, rs, rd, FinG.weak y h⟩
  | exc c d S => exact h
  | no => exact h
end
/-- readings of computations: an expression's, a test's, an argument list's -/
def tG {α β : Type} (K : PySem.W.Frag) (mg : Str → Option Value) (W : WX) (R : List Addr → Hp → α → β → Prop) (m : M α) : L2.St → Hp → (β → Hp → Prop) → Prop := fun σ H Q =>
  ∃ ι ρ S, RS K mg ι S H ∧ RE K ι H ρ σ ∧ FinG K mg W R σ ι H (m ρ S) Q
abbrev tE (K : PySem.W.Frag) (mg : Str → Option Value) (W : WX) (m : M D) : TE := tG K mg W (fun ι H d v => RD K ι H d v) m
abbrev tT (K : PySem.W.Frag) (mg : Str → Option Value) (W : WX) (m : M Bool) : TT := tG K mg W (fun _ _ b c => b = c) m
abbrev tA (K : PySem.W.Frag) (mg : Str → Option Value) (W : WX) (m : M (List D)) : TA := tG K mg W (fun ι H d v => RDs K ι H d v) m
theorem tG_seq {α β γ δ : Type} {K : PySem.W.Frag} {mg : Str → Option Value} {W : WX} {R : List Addr → Hp → α → β → Prop} {R2 : List Addr → Hp → γ → δ → Prop} {m : M α} {k : Sl → α → Store → Res γ} {σ : L2.St} {H : Hp} {Q : δ → Hp → Prop}
    (h : tG K mg W R2 (fun ρ S => (m ρ S).bind (k ρ)) σ H Q) : tG K mg W R m σ H (fun x H1 => ∃ ι1 ρ a S1, RS K mg ι1 S1 H1 ∧ RE K ι1 H1 ρ σ ∧ R ι1 H1 a x ∧ FinG K mg W R2 σ ι1 H1 (k ρ a S1) Q) := by
  obtain ⟨ι, ρ, S, rs, re, f⟩ := h
  refine ⟨ι, ρ, S, rs, re, FinG.imp f.bind fun x H1 q => ?_⟩
  obtain ⟨a, S1, ι1, y, rs1, rd, f1⟩ := q
  exact ⟨ι1, ρ, a, S1, rs1, re.mono y, rd, f1⟩
section
variable {X : Cx}
theorem _root_.L2.PE.imp {e : Expr} {t t' : TE} (h : PE X e t) (q : ∀ σ H Q, t' σ H Q → t σ H Q) : PE X e t' := ⟨fun pins s σ H Q I hw => h.run pins s σ H Q I (q _ _ _ hw)⟩
theorem _root_.L2.PT.imp {e : Expr} {t t' : TT} (h : PT X e t) (q : ∀ σ H Q, t' σ H Q → t σ H Q) : PT X e t' := ⟨fun pins s σ H Q I hw => h.run pins s σ H Q I (q _ _ _ hw)⟩
theorem _root_.L2.PW.imp {e : Expr} {t t' : TT} (h : PW X e t) (q : ∀ σ H Q, t' σ H Q → t σ H Q) : PW X e t' := ⟨fun wh pins s σ H Q I hw => h.run wh pins s σ H Q I (q _ _ _ hw)⟩
theorem _root_.L2.PA.imp {e : List Expr} {t t' : TA} (h : PA X e t) (q : ∀ σ H Q, t' σ H Q → t σ H Q) : PA X e t' := ⟨fun pos pins s σ H Q I hw => h.run pos pins s σ H Q I (q _ _ _ hw)⟩
theorem _root_.L2.PS.imp {e : Stmt} {t t' : TS} (h : PS X e t) (q : ∀ D σ H, t' D σ H → t D σ H) : PS X e t' := ⟨fun pins s σ H D I hw => h.run pins s σ H D I (q _ _ _ hw)⟩
theorem _root_.L2.PSs.imp {e : List Stmt} {t t' : TS} (h : PSs X e t) (q : ∀ D σ H, t' D σ H → t D σ H) : PSs X e t' := ⟨fun pins s σ H D I hw => h.run pins s σ H D I (q _ _ _ hw)⟩
end
/-- THE JUDGEMENTS -/
abbrev JE (X : Cx) (W : WX) (e : Expr) (m : M D) : Prop := PE X e (tE X.K X.mg W m)
abbrev JT (X : Cx) (W : WX) (e : Expr) (m : M Bool) : Prop := PT X e (tT X.K X.mg W m)
abbrev JA (X : Cx) (W : WX) (e : List Expr) (m : M (List D)) : Prop := PA X e (tA X.K X.mg W m)

/-! ### expressions -/
def mC (d : D) : M D := fun _ S => .ok d S
def mV (i : Nat) : M D := fun ρ S => match ρ[i]? with
  | some (some d) => .ok d S
  | _ => .no
def mOp (g : D → D → Store → Res D) (a b : M D) : M D := fun ρ S => (a ρ S).bind fun x S1 => (b ρ S1).bind fun y S2 => g x y S2
def mUn (g : D → Store → Res D) (a : M D) : M D := fun ρ S => (a ρ S).bind fun x S1 => g x S1
def mNil : M (List D) := fun _ S => .ok [] S
def mCons (a : M D) (r : M (List D)) : M (List D) := fun ρ S => (a ρ S).bind fun x S1 => (r ρ S1).bind fun xs S2 => .ok (x :: xs) S2
def mApp (g : List D → Store → Res D) (a : M (List D)) : M D := fun ρ S => (a ρ S).bind fun xs S1 => g xs S1
def noW : WX := fun _ _ _ _ => False
/-- a value-level operation as its reading: nothing is raised -/
def r2 (K : PySem.W.Frag) (mg : Str → Option Value) (g : D → D → Store → Res D) : R2 := fun x y H Q => ∃ ι S d e, RS K mg ι S H ∧ RD K ι H d x ∧ RD K ι H e y ∧ FinG K mg noW (fun ι H d v => RD K ι H d v) [] ι H (g d e S) Q
def r1 (K : PySem.W.Frag) (mg : Str → Option Value) (g : D → Store → Res D) : V → Hp → VK → Prop := fun x H Q => ∃ ι S d, RS K mg ι S H ∧ RD K ι H d x ∧ FinG K mg noW (fun ι H d v => RD K ι H d v) [] ι H (g d S) Q
def rN (K : PySem.W.Frag) (mg : Str → Option Value) (g : List D → Store → Res D) : List V → Hp → VK → Prop := fun xs H Q => ∃ ι S ds, RS K mg ι S H ∧ RDs K ι H ds xs ∧ FinG K mg noW (fun ι H d v => RD K ι H d v) [] ι H (g ds S) Q
/-- an operation that raises nothing -/
def Calm1 (g : D → Store → Res D) : Prop := ∀ d S c v S', g d S ≠ .exc c v S'
def Calm2 (g : D → D → Store → Res D) : Prop := ∀ d e S c v S', g d e S ≠ .exc c v S'
def CalmN (g : List D → Store → Res D) : Prop := ∀ ds S c v S', g ds S ≠ .exc c v S'
theorem FinG.calm {K : PySem.W.Frag} {mg : Str → Option Value} {W W' : WX} {α β : Type} {R : List Addr → Hp → α → β → Prop} {σ σ' : L2.St} {ι : List Addr} {H : Hp} {r : Res α} {Q : β → Hp → Prop} (hc : ∀ c v S, r ≠ .exc c v S) (h : FinG K mg W R σ ι H r Q) : FinG K mg W' R σ' ι H r Q := by
  cases r with
  | ok a S => exact h
  | exc c v S => exact absurd rfl (hc c v S)
  | no => exact h
section
variable {X : Cx} {W : WX} {a b e : Expr} {es : List Expr} {pos : Pos} {ma mb : M D} {mes : M (List D)}
theorem j_const {v : V} {d : D} (h : PE X e (tC v)) (r : ∀ K ι H, RD K ι H d v) : JE X W e (mC d) := h.imp fun σ H Q ⟨ι, ρ, S, rs, re, f⟩ => f ι H v (Ext.refl _ _) rs (r _ _ _)
theorem j_int {i j pos} : JE X W (.Constant (.int i) j pos) (mC (.int i)) := j_const pe_int fun _ _ _ => .int i
theorem j_bl {i j pos} : JE X W (.Constant (.bool i) j pos) (mC (.bl i)) := j_const pe_bl fun _ _ _ => .bl i
theorem j_non {j pos} : JE X W (.Constant .none j pos) (mC .non) := j_const pe_non fun _ _ _ => .non
theorem j_str {i j pos} : JE X W (.Constant (.str i) j pos) (mC (.str i)) := j_const pe_str fun _ _ _ => .str i
theorem j_v (i : Nat) {x : Str} {pos : Pos} (hN : X.N[i]? = some x := by rfl) (hv : Vis X.env.scope x := by first | exact Or.inl rfl | exact Or.inr (Or.inl rfl) | exact Or.inr (Or.inr rfl)) (hd : (x == ("__debug__" : Str)) = false := by decide)
    (hcd : (x == ("__classdict__" : Str)) = false := by decide) : JE X W (.Name x pos) (mV i) := (pe_var hN hv hd hcd).imp fun σ H Q ⟨ι, ρ, S, rs, re, f⟩ => by
  unfold mV at f
  cases e : ρ[i]? with
  | none => rw [e] at f; exact f.elim
  | some o =>
    rw [e] at f
    cases o with
    | none => exact f.elim
    | some d =>
      obtain ⟨v, hv, rd⟩ := re.at_ i d e
      exact ⟨v, hv, f ι H v (Ext.refl _ _) rs rd⟩
theorem j_op {op : Operator} {g : D → D → Store → Res D} (ho : OpR X (binaryOp op) (r2 X.K X.mg g)) (hc : Calm2 g) (ha : JE X W a ma) (hb : JE X W b mb) : JE X W (.BinOp a op b pos) (mOp g ma mb) :=
  (pe_op ho ha hb).imp fun σ H Q h => by
    obtain ⟨ι, ρ, S, rs, re, f⟩ := tG_seq (R := fun ι H d v => RD X.K ι H d v) (m := ma) (k := fun ρ x S1 => (mb ρ S1).bind fun y S2 => g x y S2) h
    refine ⟨ι, ρ, S, rs, re, f.imp fun x H1 ⟨ι1, ρ1, d, S1, rs1, re1, rd1, f1⟩ => ⟨ι1, ρ1, S1, rs1, re1, FinG.imp f1.bind fun y H2 ⟨e, S2, ι2, y2, rs2, rd2, f2⟩ => ?_⟩⟩
    exact ⟨ι2, S2, d, e, rs2, rd1.mono y2, rd2, f2.calm (hc _ _ _)⟩
theorem j_cmp {op : CmpOp} {g : D → D → Store → Res D} (ho : OpR X (compareOp op) (r2 X.K X.mg g)) (hc : Calm2 g) (ha : JE X W a ma) (hb : JE X W b mb) (hm : behindInMarks op b = false) : JE X W (.Compare a [op] [b] pos) (mOp g ma mb) :=
  (pe_cmpR ho ha hb hm).imp fun σ H Q h => by
    obtain ⟨ι, ρ, S, rs, re, f⟩ := tG_seq (R := fun ι H d v => RD X.K ι H d v) (m := ma) (k := fun ρ x S1 => (mb ρ S1).bind fun y S2 => g x y S2) h
    refine ⟨ι, ρ, S, rs, re, f.imp fun x H1 ⟨ι1, ρ1, d, S1, rs1, re1, rd1, f1⟩ => ⟨ι1, ρ1, S1, rs1, re1, FinG.imp f1.bind fun y H2 ⟨e, S2, ι2, y2, rs2, rd2, f2⟩ => ?_⟩⟩
    exact ⟨ι2, S2, d, e, rs2, rd1.mono y2, rd2, f2.calm (hc _ _ _)⟩
theorem j_un {op : UnaryOp} {g : D → Store → Res D} (ho : UnR X (unaryOp op) (r1 X.K X.mg g)) (hc : Calm1 g) (ha : JE X W a ma) : JE X W (.UnaryOp op a pos) (mUn g ma) :=
  (pe_un ho ha).imp fun σ H Q h => by
    obtain ⟨ι, ρ, S, rs, re, f⟩ := tG_seq (R := fun ι H d v => RD X.K ι H d v) (m := ma) (k := fun ρ x S1 => g x S1) h
    refine ⟨ι, ρ, S, rs, re, f.imp fun x H1 ⟨ι1, ρ1, d, S1, rs1, re1, rd1, f1⟩ => ?_⟩
    exact ⟨ι1, S1, d, rs1, rd1, f1.calm (hc _ _)⟩
/-! arguments -/
theorem j_nil : JA X W [] mNil := pa_nil.imp fun σ H Q ⟨ι, ρ, S, rs, re, f⟩ => f ι H [] (Ext.refl _ _) rs .nil
theorem j_cons (ha : JE X W e ma) (hr : JA X W es mes) (hs : starEach (e :: es) X.env = (false, eval e X.env) :: starEach es X.env := by rfl) : JA X W (e :: es) (mCons ma mes) :=
  (pa_cons ha hr hs).imp fun σ H Q h => by
    obtain ⟨ι, ρ, S, rs, re, f⟩ := tG_seq (R := fun ι H d v => RD X.K ι H d v) (m := ma) (k := fun ρ x S1 => (mes ρ S1).bind fun y S2 => .ok (x :: y) S2) h
    refine ⟨ι, ρ, S, rs, re, f.imp fun x H1 ⟨ι1, ρ1, d, S1, rs1, re1, rd1, f1⟩ => ⟨ι1, ρ1, S1, rs1, re1, FinG.imp f1.bind fun y H2 ⟨e, S2, ι2, y2, rs2, rd2, f2⟩ => ?_⟩⟩
    exact f2 ι2 H2 (x :: y) (Ext.refl _ _) rs2 (.cons (rd1.mono y2) rd2)
/-! displays -/
def gTup (xs : List D) (S : Store) : Res D := if xs.length ≤ 16777216 then .ok (.tup xs) S else .no
def gLst (xs : List D) (S : Store) : Res D := if xs.length ≤ 16777216 then .ok (.ref S.length) (S ++ [.lst xs]) else .no
theorem fin_tup {K : PySem.W.Frag} {mg : Str → Option Value} {W : WX} {σ : L2.St} {ι : List Addr} {S : Store} {H : Hp} {ds : List D} {vs : List V} {Q : VK} {p : Addr} (rs : RS K mg ι S H) (rd : RDs K ι H ds vs) (f : FinG K mg W (fun ι H d v => RD K ι H d v) σ ι H (.ok (.tup ds) S) Q) (hp : H p = none) :
    Q (.ref p) (upd H p (.tup vs)) := f ι _ _ (Ext.new0 hp) (rs.new0 hp) (.tup (.inl (.inl upd_same)) (rd.mono (Ext.new0 hp)))
theorem fin_lst {K : PySem.W.Frag} {mg : Str → Option Value} {W : WX} {σ : L2.St} {ι : List Addr} {S : Store} {H : Hp} {ds : List D} {vs : List V} {Q : VK} {p : Addr} (rs : RS K mg ι S H) (rd : RDs K ι H ds vs) (f : FinG K mg W (fun ι H d v => RD K ι H d v) σ ι H (.ok (.ref S.length) (S ++ [.lst ds])) Q) (hp : H p = none) :
    Q (.ref p) (upd H p (.lst vs)) :=
  f (ι ++ [p]) _ _ (Ext.new1 hp) (rs.push hp ⟨vs, upd_same, rd.mono (Ext.new1 hp)⟩) (.ref (by rw [rs.len, List.getElem?_append_right (Nat.le_refl _), Nat.sub_self]; rfl))
theorem j_tup {x1} (h : JA X W es mes) : JE X W (.Tuple es x1 pos) (mApp gTup mes) := (pe_tup h).imp fun σ H Q h => by
  obtain ⟨ι, ρ, S, rs, re, f⟩ := tG_seq (R := fun ι H d v => RDs X.K ι H d v) (m := mes) (k := fun ρ x S1 => gTup x S1) h
  refine ⟨ι, ρ, S, rs, re, f.imp fun vs H1 ⟨ι1, ρ1, ds, S1, rs1, re1, rd1, f1⟩ => ?_⟩
  unfold gTup at f1
  split at f1
  · rename_i hl
    exact ⟨by rw [← rd1.length, sizeLine_eq]; exact hl, fun p hp => fin_tup rs1 rd1 f1 hp⟩
  · exact f1.elim
theorem j_lst (h : JA X W es mes) : JE X W (.List es pos) (mApp gLst mes) := (pe_lst h).imp fun σ H Q h => by
  obtain ⟨ι, ρ, S, rs, re, f⟩ := tG_seq (R := fun ι H d v => RDs X.K ι H d v) (m := mes) (k := fun ρ x S1 => gLst x S1) h
  refine ⟨ι, ρ, S, rs, re, f.imp fun vs H1 ⟨ι1, ρ1, ds, S1, rs1, re1, rd1, f1⟩ => ?_⟩
  unfold gLst at f1
  split at f1
  · rename_i hl
    exact ⟨by rw [← rd1.length, sizeLine_eq]; exact hl, fun p hp => fin_lst rs1 rd1 f1 hp⟩
  · exact f1.elim
end
end MI

set_option Elab.async false
set_option linter.all false
set_option maxRecDepth 100000
namespace MI
open PySem PySem.Spec PyProof.Rows L2

/-! ### truth, tests -/
def gTru (d : D) (S : Store) : Option Bool := match d with
  | .non => some false
  | .bl b => some b
  | .int i => some (i != 0)
  | .str y => if y.length ≤ 16777216 then some ((y.length : Int) != 0) else none
  | .tup xs => some (!xs.isEmpty)
  | .fro xs => some (!xs.isEmpty)
  | .ref i => match S[i]? with
    | some (.lst xs) => some (!xs.isEmpty)
    | some (.dct kvs) => some (!kvs.isEmpty)
    | _ => none
def mTru (m : M D) : M Bool := fun ρ S => (m ρ S).bind fun d S1 => match gTru d S1 with
  | some b => .ok b S1
  | none => .no
def mAnd (a b : M Bool) : M Bool := fun ρ S => (a ρ S).bind fun c S1 => if c = true then b ρ S1 else .ok false S1
def mOr (a b : M Bool) : M Bool := fun ρ S => (a ρ S).bind fun c S1 => if c = true then .ok true S1 else b ρ S1
def mNot (a : M Bool) : M Bool := fun ρ S => (a ρ S).bind fun c S1 => .ok (!c) S1
/-- a and b as a value -/
def isB (d : D) : Option Bool := match d with
  | .bl b => some b
  | _ => none
def mAndV (a b : M D) : M D := fun ρ S => (a ρ S).bind fun x S1 => match isB x with
  | some c => if c = true then b ρ S1 else .ok (.bl false) S1
  | none => .no
def mOrV (a b : M D) : M D := fun ρ S => (a ρ S).bind fun x S1 => match isB x with
  | some c => if c = true then .ok (.bl true) S1 else b ρ S1
  | none => .no
def mNotV (a : M D) : M D := fun ρ S => (a ρ S).bind fun x S1 => match isB x with
  | some c => .ok (.bl (!c)) S1
  | none => .no
def mIf {α : Type} (c : M Bool) (a b : M α) : M α := fun ρ S => (c ρ S).bind fun c S1 => if c = true then a ρ S1 else b ρ S1

theorem RDs.isEmpty {K : PySem.W.Frag} {ι : List Addr} {H : Hp} {ds : List D} {vs : List V} (r : RDs K ι H ds vs) : ds.isEmpty = vs.isEmpty := by
  have := r.length
  cases ds <;> cases vs <;> simp_all
theorem RKV.isEmpty {K : PySem.W.Frag} {ι : List Addr} {H : Hp} {ds : List (Key × D)} {vs : List (Key × V)} (r : RKV K ι H ds vs) : ds.isEmpty = vs.isEmpty := by
  have := Paired.length r
  cases ds <;> cases vs <;> simp_all
theorem isB_some {d : D} {b : Bool} (h : isB d = some b) : d = .bl b := by
  cases d <;> simp [isB] at h
  rw [h]
theorem tru_v {K : PySem.W.Frag} {mg : Str → Option Value} {ι : List Addr} {S : Store} {H : Hp} {d : D} {v : V} {b : Bool} (rs : RS K mg ι S H) (rd : RD K ι H d v) (h : gTru d S = some b) : TruV K v H b := by
  cases rd with
  | non => simp only [gTru, Option.some.injEq] at h; exact h.symm
  | bl c => simp only [gTru, Option.some.injEq] at h; exact h.symm
  | int i => simp only [gTru, Option.some.injEq] at h; exact h.symm
  | str y =>
    simp only [gTru] at h
    split at h
    · rename_i hl
      exact ⟨by rw [sizeLine_eq]; exact hl, (Option.some.inj h).symm⟩
    · cases h
  | tup hs r =>
    simp only [gTru, Option.some.injEq] at h
    exact .inr (.inl ⟨_, hs, by rw [← h, r.isEmpty]⟩)
  | fro hs r =>
    simp only [gTru, Option.some.injEq] at h
    exact .inl ⟨_, hs.sql, by rw [← h, r.isEmpty]⟩
  | @ref i a hi =>
    simp only [gTru] at h
    cases e : S[i]? with
    | none => rw [e] at h; cases h
    | some c =>
      rw [e] at h
      have ok := rs.get' e hi
      cases c with
      | lst xs =>
        obtain ⟨vs, e1, r⟩ := ok
        exact .inl ⟨vs, SqL.of e1, by rw [← Option.some.inj h, r.isEmpty]⟩
      | dct kvs =>
        obtain ⟨vs, e1, r⟩ := ok
        exact .inr (.inr ⟨vs, e1, by rw [← Option.some.inj h, RKV.isEmpty r]⟩)
      | exc c v => cases h
section
variable {X : Cx} {W : WX} {a b e : Expr} {es : List Expr} {pos : Pos} {ma mb : M D} {mes : M (List D)} {ta tb : M Bool} {rest : List Expr}
theorem j_t (ha : JE X W a ma) (he : ∀ whole, isTrue a X.env whole = (do let v ← whole; standAt a.pos; holding [v] (truthy v)) := by intro _; rfl) : JT X W a (mTru ma) :=
  (pt_truth ha he).imp fun σ H Q h => by
    obtain ⟨ι, ρ, S, rs, re, f⟩ := tG_seq (R := fun ι H d v => RD X.K ι H d v) (m := ma) (k := fun ρ d S1 => match gTru d S1 with
      | some b => Res.ok b S1
      | none => .no) h
    refine ⟨ι, ρ, S, rs, re, f.imp fun x H1 ⟨ι1, ρ1, d, S1, rs1, re1, rd1, f1⟩ => ?_⟩
    cases g : gTru d S1 with
    | none => simp only [g] at f1; exact f1.elim
    | some b =>
      simp only [g] at f1
      exact ⟨b, tru_v rs1 rd1 g, f1 ι1 H1 b (Ext.refl _ _) rs1 rfl⟩
theorem j_and1 (ha : JT X W a ta) : PW X (.BoolOp .And [a] pos) (tT X.K X.mg W ta) := pw_and1 ha
theorem j_or1 (ha : JT X W a ta) : PW X (.BoolOp .Or [a] pos) (tT X.K X.mg W ta) := pw_or1 ha
theorem fin_and {K : PySem.W.Frag} {mg : Str → Option Value} {W : WX} {σ : L2.St} {H : Hp} {Q : Bool → Hp → Prop} (h : tT K mg W (mAnd ta tb) σ H Q) : tAnd (tT K mg W ta) (tT K mg W tb) σ H Q := by
  obtain ⟨ι, ρ, S, rs, re, f⟩ := tG_seq (R := fun _ _ b c => b = c) (m := ta) (k := fun ρ c S1 => if c = true then tb ρ S1 else .ok false S1) h
  refine ⟨ι, ρ, S, rs, re, f.imp fun x H1 ⟨ι1, ρ1, d, S1, rs1, re1, rd1, f1⟩ => ?_⟩
  subst rd1
  cases d with
  | true => exact ⟨ι1, ρ1, S1, rs1, re1, f1⟩
  | false => exact f1 ι1 H1 false (Ext.refl _ _) rs1 rfl
theorem fin_or {K : PySem.W.Frag} {mg : Str → Option Value} {W : WX} {σ : L2.St} {H : Hp} {Q : Bool → Hp → Prop} (h : tT K mg W (mOr ta tb) σ H Q) : tOr (tT K mg W ta) (tT K mg W tb) σ H Q := by
  obtain ⟨ι, ρ, S, rs, re, f⟩ := tG_seq (R := fun _ _ b c => b = c) (m := ta) (k := fun ρ c S1 => if c = true then .ok true S1 else tb ρ S1) h
  refine ⟨ι, ρ, S, rs, re, f.imp fun x H1 ⟨ι1, ρ1, d, S1, rs1, re1, rd1, f1⟩ => ?_⟩
  subst rd1
  cases d with
  | true => exact f1 ι1 H1 true (Ext.refl _ _) rs1 rfl
  | false => exact ⟨ι1, ρ1, S1, rs1, re1, f1⟩
theorem j_and (ha : JT X W a ta) (hb : PW X (.BoolOp .And (b :: rest) pos) (tT X.K X.mg W tb)) : PW X (.BoolOp .And (a :: b :: rest) pos) (tT X.K X.mg W (mAnd ta tb)) := (pw_and ha hb).imp fun _ _ _ h => fin_and h
theorem j_or (ha : JT X W a ta) (hb : PW X (.BoolOp .Or (b :: rest) pos) (tT X.K X.mg W tb)) : PW X (.BoolOp .Or (a :: b :: rest) pos) (tT X.K X.mg W (mOr ta tb)) := (pw_or ha hb).imp fun _ _ _ h => fin_or h
theorem j_pw (h : PW X e (tT X.K X.mg W ta)) : JT X W e ta := h.pt
theorem j_not (ha : JT X W a ta) : JT X W (.UnaryOp .Not a pos) (mNot ta) := (pt_not ha).imp fun σ H Q h => by
  obtain ⟨ι, ρ, S, rs, re, f⟩ := tG_seq (R := fun _ _ b c => b = c) (m := ta) (k := fun ρ c S1 => .ok (!c) S1) h
  refine ⟨ι, ρ, S, rs, re, f.imp fun x H1 ⟨ι1, ρ1, d, S1, rs1, re1, rd1, f1⟩ => ?_⟩
  subst rd1
  exact f1 ι1 H1 _ (Ext.refl _ _) rs1 rfl
/-! as values -/
theorem j_one {op} (ha : JE X W a ma) : JE X W (.BoolOp op [a] pos) ma := pe_one ha
theorem fin_isB {K : PySem.W.Frag} {mg : Str → Option Value} {W : WX} {σ : L2.St} {ι : List Addr} {H : Hp} {d : D} {v : V} {S : Store} {Q : VK} {k : Bool → Res D} (rd : RD K ι H d v)
    (f : FinG K mg W (fun ι H d v => RD K ι H d v) σ ι H (match isB d with
      | some c => k c
      | none => .no) Q) : ∃ c, v = .bl c ∧ FinG K mg W (fun ι H d v => RD K ι H d v) σ ι H (k c) Q := by
  cases g : isB d with
  | none => rw [g] at f; exact f.elim
  | some c =>
    rw [g] at f
    rw [isB_some g] at rd
    cases rd
    exact ⟨c, rfl, f⟩
theorem j_andV (ha : JE X W a ma) (hb : JE X W (.BoolOp .And (b :: rest) pos) mb) : JE X W (.BoolOp .And (a :: b :: rest) pos) (mAndV ma mb) := (pe_and ha hb).imp fun σ H Q h => by
  obtain ⟨ι, ρ, S, rs, re, f⟩ := tG_seq (R := fun ι H d v => RD X.K ι H d v) (m := ma) (k := fun ρ x S1 => match isB x with
    | some c => if c = true then mb ρ S1 else .ok (.bl false) S1
    | none => .no) h
  refine ⟨ι, ρ, S, rs, re, f.imp fun x H1 ⟨ι1, ρ1, d, S1, rs1, re1, rd1, f1⟩ => ?_⟩
  obtain ⟨c, rfl, f2⟩ := fin_isB (S := S1) (k := fun c => if c = true then mb ρ1 S1 else .ok (.bl false) S1) rd1 f1
  refine ⟨c, rfl, ?_⟩
  cases c with
  | true => exact ⟨ι1, ρ1, S1, rs1, re1, f2⟩
  | false => exact f2 ι1 H1 _ (Ext.refl _ _) rs1 (.bl false)
theorem j_orV (ha : JE X W a ma) (hb : JE X W (.BoolOp .Or (b :: rest) pos) mb) : JE X W (.BoolOp .Or (a :: b :: rest) pos) (mOrV ma mb) := (pe_or ha hb).imp fun σ H Q h => by
  obtain ⟨ι, ρ, S, rs, re, f⟩ := tG_seq (R := fun ι H d v => RD X.K ι H d v) (m := ma) (k := fun ρ x S1 => match isB x with
    | some c => if c = true then .ok (.bl true) S1 else mb ρ S1
    | none => .no) h
  refine ⟨ι, ρ, S, rs, re, f.imp fun x H1 ⟨ι1, ρ1, d, S1, rs1, re1, rd1, f1⟩ => ?_⟩
  obtain ⟨c, rfl, f2⟩ := fin_isB (S := S1) (k := fun c => if c = true then .ok (.bl true) S1 else mb ρ1 S1) rd1 f1
  refine ⟨c, rfl, ?_⟩
  cases c with
  | false => exact ⟨ι1, ρ1, S1, rs1, re1, f2⟩
  | true => exact f2 ι1 H1 _ (Ext.refl _ _) rs1 (.bl true)
theorem j_notV (ha : JE X W a ma) : JE X W (.UnaryOp .Not a pos) (mNotV ma) := (pe_not ha).imp fun σ H Q h => by
  obtain ⟨ι, ρ, S, rs, re, f⟩ := tG_seq (R := fun ι H d v => RD X.K ι H d v) (m := ma) (k := fun ρ x S1 => match isB x with
    | some c => Res.ok (D.bl (!c)) S1
    | none => .no) h
  refine ⟨ι, ρ, S, rs, re, f.imp fun x H1 ⟨ι1, ρ1, d, S1, rs1, re1, rd1, f1⟩ => ?_⟩
  obtain ⟨c, rfl, f2⟩ := fin_isB (S := S1) (k := fun c => Res.ok (D.bl (!c)) S1) rd1 f1
  exact ⟨c, rfl, f2 ι1 H1 _ (Ext.refl _ _) rs1 (.bl _)⟩
theorem j_if {c : Expr} (hc : JT X W c ta) (ha : JE X W a ma) (hb : JE X W b mb) : JE X W (.IfExp c a b pos) (mIf ta ma mb) := (pe_ifExp hc ha hb).imp fun σ H Q h => by
  obtain ⟨ι, ρ, S, rs, re, f⟩ := tG_seq (R := fun _ _ b c => b = c) (m := ta) (k := fun ρ c S1 => if c = true then ma ρ S1 else mb ρ S1) h
  refine ⟨ι, ρ, S, rs, re, f.imp fun x H1 ⟨ι1, ρ1, d, S1, rs1, re1, rd1, f1⟩ => ?_⟩
  subst rd1
  cases d with
  | true => exact ⟨ι1, ρ1, S1, rs1, re1, f1⟩
  | false => exact ⟨ι1, ρ1, S1, rs1, re1, f1⟩
end
end MI

set_option Elab.async false
set_option linter.all false
set_option maxRecDepth 100000
namespace MI
open PySem PySem.Spec PyProof.Rows L2

/-! ### whole numbers -/
def gInt2 (C : Int → Int → Bool) (f : Int → Int → D) : D → D → Store → Res D := fun x y S => match x, y with
  | .int i, .int j => if C i j then .ok (f i j) S else .no
  | _, _ => .no
theorem calm_int2 {C : Int → Int → Bool} {f : Int → Int → D} : Calm2 (gInt2 C f) := fun d e S c v S' h => by
  unfold gInt2 at h
  split at h
  · split at h <;> cases h
  · cases h
theorem RD.int_inv {K : PySem.W.Frag} {ι : List Addr} {H : Hp} {i : Int} {v : V} (h : RD K ι H (.int i) v) : v = .int i := by cases h; rfl
theorem RD.str_inv {K : PySem.W.Frag} {ι : List Addr} {H : Hp} {i : Str} {v : V} (h : RD K ι H (.str i) v) : v = .str i := by cases h; rfl
theorem RD.bl_inv {K : PySem.W.Frag} {ι : List Addr} {H : Hp} {i : Bool} {v : V} (h : RD K ι H (.bl i) v) : v = .bl i := by cases h; rfl
theorem RD.non_inv {K : PySem.W.Frag} {ι : List Addr} {H : Hp} {v : V} (h : RD K ι H .non v) : v = .non := by cases h; rfl
theorem RD.ref_inv {K : PySem.W.Frag} {ι : List Addr} {H : Hp} {i : Nat} {v : V} (h : RD K ι H (.ref i) v) : ∃ a, v = .ref a ∧ ι[i]? = some a := by cases h with | ref h => exact ⟨_, rfl, h⟩
theorem RD.tup_inv {K : PySem.W.Frag} {ι : List Addr} {H : Hp} {xs : List D} {v : V} (h : RD K ι H (.tup xs) v) : ∃ a vs, v = .ref a ∧ SqT K H a vs ∧ RDs K ι H xs vs := by cases h with | tup h r => exact ⟨_, _, rfl, h, r⟩
theorem RD.fro_inv {K : PySem.W.Frag} {ι : List Addr} {H : Hp} {xs : List D} {v : V} (h : RD K ι H (.fro xs) v) : ∃ a vs, v = .ref a ∧ SqF K H a vs ∧ RDs K ι H xs vs := by cases h with | fro h r => exact ⟨_, _, rfl, h, r⟩
section
variable {X : Cx}
theorem o_int2 {f : Value → Value → Sem Value} {C : Int → Int → Bool} {P : Int → Int → Prop} {g : Int → Int → V} {g' : Int → Int → D} (h : OpR X f (rI P g)) (hc : ∀ i j, C i j = true → P i j) (hr : ∀ K ι H i j, RD K ι H (g' i j) (g i j)) :
    OpR X f (r2 X.K X.mg (gInt2 C g')) := by
  intro pins s σ H x y v u Q I rx ry q
  obtain ⟨ι, S, d, e, rs, rd, re, fin⟩ := q
  unfold gInt2 at fin
  split at fin
  · rename_i i j
    split at fin
    · rename_i hC
      rw [rd.int_inv] at rx
      rw [re.int_inv] at ry
      exact h pins s σ H _ _ v u Q I rx ry ⟨i, j, rfl, rfl, hc i j hC, fin ι H _ (Ext.refl _ _) rs (hr _ _ _ _ _)⟩
    · exact fin.elim
  · exact fin.elim
theorem rI_of0 {f : Value → Value → Sem Value} {g : Int → Int → V} (h : OpR X f (rI0 g)) : OpR X f (rI (fun _ _ => True) g) := fun pins s σ H x y v u Q I rx ry ⟨i, j, a, b, _, q⟩ => h pins s σ H x y v u Q I rx ry ⟨i, j, a, b, q⟩
def tt2 : Int → Int → Bool := fun _ _ => true
abbrev gSub := gInt2 tt2 fun i j => .int (i - j)
abbrev gLt := gInt2 tt2 fun i j => .bl (decide (i < j))
abbrev gLe := gInt2 tt2 fun i j => .bl (decide (i ≤ j))
abbrev gGt := gInt2 tt2 fun i j => .bl (decide (j < i))
abbrev gGe := gInt2 tt2 fun i j => .bl (decide (j ≤ i))
def cDiv (_ j : Int) : Bool := j != 0 && decide (j.natAbs.log2 < 9000)
def cMod (_ j : Int) : Bool := j != 0
def cPow (i j : Int) : Bool := decide (0 ≤ j) && decide ((i.natAbs.log2 + 1 : Int) * j ≤ 2 ^ 27)
abbrev gDiv := gInt2 cDiv fun i j => .int (i.fdiv j)
abbrev gMod := gInt2 cMod fun i j => .int (i.fmod j)
abbrev gPow := gInt2 cPow fun i j => .int (i ^ j.toNat)
theorem bits_le (x : Int) : Builtin.Int.intBits x ≤ x.natAbs.log2 + 1 := by
  unfold Builtin.Int.intBits
  split <;> omega
theorem o_sub : OpR X (binaryOp .Sub) (r2 X.K X.mg gSub) := o_int2 (rI_of0 op_sub) (fun _ _ _ => trivial) fun _ _ _ _ _ => .int _
theorem o_lt : OpR X (compareOp .Lt) (r2 X.K X.mg gLt) := o_int2 (rI_of0 op_lt) (fun _ _ _ => trivial) fun _ _ _ _ _ => .bl _
theorem o_le : OpR X (compareOp .LtE) (r2 X.K X.mg gLe) := o_int2 (rI_of0 op_le) (fun _ _ _ => trivial) fun _ _ _ _ _ => .bl _
theorem o_gt : OpR X (compareOp .Gt) (r2 X.K X.mg gGt) := o_int2 (rI_of0 op_gt) (fun _ _ _ => trivial) fun _ _ _ _ _ => .bl _
theorem o_ge : OpR X (compareOp .GtE) (r2 X.K X.mg gGe) := o_int2 (rI_of0 op_ge) (fun _ _ _ => trivial) fun _ _ _ _ _ => .bl _
theorem op_fdivA : OpR X (binaryOp .FloorDiv) (rI (fun _ j => j ≠ 0 ∧ j.natAbs.log2 < 9000) fun i j => .int (i.fdiv j)) := opI fun _ _ _ _ _ _ _ hc q => floordiv_int hc.1 q (.inl (PyProof.noPylong_of_log2 hc.2))
theorem o_div : OpR X (binaryOp .FloorDiv) (r2 X.K X.mg gDiv) := o_int2 op_fdivA (fun i j h => by
  unfold cDiv at h
  rw [Bool.and_eq_true] at h
  exact ⟨by simpa using h.1, of_decide_eq_true h.2⟩) fun _ _ _ _ _ => .int _
theorem o_mod : OpR X (binaryOp .Mod) (r2 X.K X.mg gMod) := o_int2 op_modN (fun i j h => by simpa [cMod] using h) fun _ _ _ _ _ => .int _
theorem op_powA : OpR X (binaryOp .Pow) (rI (fun i j => 0 ≤ j ∧ (i.natAbs.log2 + 1 : Int) * j ≤ 2 ^ 27) fun i j => .int (i ^ j.toNat)) := opI fun i j _ _ _ _ _ hc q => pow_int hc.1 (by
  have h1 := bits_le i
  have h2 : (Builtin.Int.intBits i : Int) ≤ i.natAbs.log2 + 1 := by omega
  exact Int.le_trans (Int.mul_le_mul_of_nonneg_right h2 hc.1) hc.2) q
theorem o_pow : OpR X (binaryOp .Pow) (r2 X.K X.mg gPow) := o_int2 op_powA (fun i j h => by
  unfold cPow at h
  rw [Bool.and_eq_true] at h
  exact ⟨of_decide_eq_true h.1, of_decide_eq_true h.2⟩) fun _ _ _ _ _ => .int _
end
/-! ### * : numbers, lists, texts -/
def mulOk (i j : Int) : Bool := decide (i.natAbs.log2 + j.natAbs.log2 < 100000000)
def gMul : D → D → Store → Res D := fun x y S => match x, y with
  | .int i, .int j => if mulOk i j then .ok (.int (i * j)) S else .no
  | .ref a, .int k => match S[a]? with
    | some (.lst xs) => if xs.length * k.toNat ≤ 16777216 ∧ k.natAbs < 2 ^ 60 then .ok (.ref S.length) (S ++ [.lst (List.replicate k.toNat xs).flatten]) else .no
    | _ => .no
  | .tup xs, .int k => if (xs.length ≠ 0 ∧ xs.length ≤ 1000) ∧ 2 ≤ k ∧ k ≤ 1000 then .ok (.tup (List.replicate k.toNat xs).flatten) S else .no
  | _, _ => .no
theorem calm_mul : Calm2 gMul := fun d e S c v S' h => by
  unfold gMul at h
  split at h
  · split at h <;> cases h
  · split at h
    · split at h <;> cases h
    · cases h
  · split at h <;> cases h
  · cases h
theorem mulOk_ok {i j : Int} (h : mulOk i j = true) : IntMulOk i j := by
  have h1 := bits_le i
  have h2 := bits_le j
  have h3 : i.natAbs.log2 + j.natAbs.log2 < 100000000 := of_decide_eq_true h
  have e : bitsLine = 134217728 := by decide
  unfold IntMulOk
  intro z
  rw [Bool.and_eq_true] at z
  have z2 := z.2
  unfold Builtin.Int.intTooBig at z2
  have z3 := of_decide_eq_true z2
  rw [e] at z3
  omega
theorem RDs.rep {K : PySem.W.Frag} {ι : List Addr} {H : Hp} {ds : List D} {vs : List V} (r : RDs K ι H ds vs) : ∀ n : Nat, RDs K ι H (List.replicate n ds).flatten (List.replicate n vs).flatten
  | 0 => .nil
  | n + 1 => by
    rw [List.replicate_succ, List.replicate_succ, List.flatten_cons, List.flatten_cons]
    exact r.app (RDs.rep r n)
section
variable {X : Cx}
theorem o_mul : OpR X (binaryOp .Mult) (r2 X.K X.mg gMul) := by
  intro pins s σ H x y v u Q I rx ry q
  obtain ⟨ι, S, d, e, rs, rd, re, fin⟩ := q
  unfold gMul at fin
  split at fin
  · rename_i i j
    split at fin
    · rename_i hC
      rw [rd.int_inv] at rx
      rw [re.int_inv] at ry
      obtain ⟨t, rfl⟩ := rx
      obtain ⟨t', rfl⟩ := ry
      exact mul_int ⟨.int _, H, I.tok _, ⟨_, rfl⟩, fin ι H _ (Ext.refl _ _) rs (.int _)⟩ (mulOk_ok hC)
    · exact fin.elim
  · rename_i i k
    obtain ⟨a, rfl, ha⟩ := rd.ref_inv
    rw [re.int_inv] at ry
    split at fin
    · rename_i xs hx
      split at fin
      · rename_i hk
        obtain ⟨vs, e1, r⟩ := rs.get' hx ha
        refine op_rep pins s σ H _ _ v u Q I rx ry ⟨a, k, vs, rfl, rfl, e1, by omega, by omega, by rw [← r.length, sizeLine_eq]; exact hk.1, fun p hp => ?_⟩
        exact fin_lst rs (r.rep _) fin hp
      · exact fin.elim
    · exact fin.elim
  · rename_i xs k
    obtain ⟨l, vs, rfl, hl, r⟩ := rd.tup_inv
    rw [re.int_inv] at ry
    split at fin
    · rename_i hk
      refine op_repT pins s σ H _ _ v u Q I rx ry ⟨l, k, vs, rfl, rfl, hl, fun z => hk.1.1 (by rw [r.length, z]; rfl), hk.2.1, hk.2.2, by rw [← r.length]; exact hk.1.2, fun p hp => ?_⟩
      exact fin_tup rs (r.rep _) fin hp
    · exact fin.elim
  · exact fin.elim
end
/-! ### + -/
def gAdd : D → D → Store → Res D := fun x y S => match x, y with
  | .int i, .int j => .ok (.int (i + j)) S
  | .str i, .str j => if i.length + j.length ≤ 16777216 then .ok (.str (i ++ j)) S else .no
  | .tup xs, .tup ys => if xs.length + ys.length ≤ 16777216 then .ok (.tup (xs ++ ys)) S else .no
  | .ref a, .ref b => match S[a]?, S[b]? with
    | some (.lst xs), some (.lst ys) => if xs.length + ys.length ≤ 16777216 then .ok (.ref S.length) (S ++ [.lst (xs ++ ys)]) else .no
    | _, _ => .no
  | _, _ => .no
instance (xs : List D) : Decidable (xs ≠ []) := match xs with
  | [] => isFalse fun h => h rfl
  | _ :: _ => isTrue fun h => nomatch h
theorem calm_add : Calm2 gAdd := fun d e S c v S' h => by
  unfold gAdd at h
  split at h
  · cases h
  · split at h <;> cases h
  · split at h <;> cases h
  · split at h
    · split at h <;> cases h
    · cases h
  · cases h
section
variable {X : Cx}
theorem RDs.nil_iff {K : PySem.W.Frag} {ι : List Addr} {H : Hp} {ds : List D} {vs : List V} (r : RDs K ι H ds vs) : ds = [] ↔ vs = [] := by
  have := r.length
  cases ds <;> cases vs <;> simp_all
theorem o_add : OpR X (binaryOp .Add) (r2 X.K X.mg gAdd) := by
  intro pins s σ H x y v u Q I rx ry q
  obtain ⟨ι, S, d, e, rs, rd, re, fin⟩ := q
  unfold gAdd at fin
  split at fin
  · rename_i i j
    rw [rd.int_inv] at rx
    rw [re.int_inv] at ry
    exact op_add pins s σ H _ _ v u Q I rx ry ⟨i, j, rfl, rfl, fin ι H _ (Ext.refl _ _) rs (.int _)⟩
  · rename_i i j
    rw [rd.str_inv] at rx
    rw [re.str_inv] at ry
    split at fin
    · rename_i hz
      exact op_add_str pins s σ H _ _ v u Q I rx ry ⟨i, j, rfl, rfl, by rw [sizeLine_eq]; exact hz, fin ι H _ (Ext.refl _ _) rs (.str _)⟩
    · exact fin.elim
  · rename_i xs ys
    obtain ⟨a, vs, rfl, ha, ra⟩ := rd.tup_inv
    obtain ⟨b, us, rfl, hb, rb⟩ := re.tup_inv
    split at fin
    · rename_i hz
      refine op_catA pins s σ H _ _ v u Q I rx ry ⟨a, b, vs, us, rfl, rfl, ha, hb, by rw [← ra.length, ← rb.length, sizeLine_eq]; exact hz, fun z => ?_, fun _ z => ?_, fun _ _ p hp => ?_⟩
      · have e1 : xs = [] := ra.nil_iff.mpr z
        subst e1
        rw [List.nil_append] at fin
        exact fin ι H _ (Ext.refl _ _) rs (.tup hb rb)
      · have e1 : ys = [] := rb.nil_iff.mpr z
        subst e1
        rw [List.append_nil] at fin
        exact fin ι H _ (Ext.refl _ _) rs (.tup ha ra)
      · exact fin_tup rs (ra.app rb) fin hp
    · exact fin.elim
  · rename_i i j
    obtain ⟨a, rfl, ha⟩ := rd.ref_inv
    obtain ⟨b, rfl, hb⟩ := re.ref_inv
    split at fin
    · rename_i xs ys h1 h2
      split at fin
      · rename_i hz
        obtain ⟨vs, e1, r1⟩ := rs.get' h1 ha
        obtain ⟨us, e2, r2⟩ := rs.get' h2 hb
        exact op_cat pins s σ H _ _ v u Q I rx ry ⟨a, b, vs, us, rfl, rfl, e1, e2, by rw [← r1.length, ← r2.length, sizeLine_eq]; exact hz, fun p hp => fin_lst rs (r1.app r2) fin hp⟩
      · exact fin.elim
    · exact fin.elim
  · exact fin.elim
end
/-! ### data: ==, != -/
mutual
def toPy (S : Store) : Nat → D → Option PyData
  | 0, _ => none
  | _ + 1, .non => some .none
  | _ + 1, .bl b => some (.bool b)
  | _ + 1, .int i => some (.int i)
  | _ + 1, .str x => some (.str x)
  | n + 1, .tup xs => (toPys S n xs).map .tuple
  | n + 1, .fro xs => (toPys S n xs).map .list
  | n + 1, .ref i => match S[i]? with
    | some (.lst xs) => (toPys S n xs).map .list
    | _ => none
def toPys (S : Store) : Nat → List D → Option (List PyData)
  | 0, _ => none
  | _ + 1, [] => some []
  | n + 1, x :: xs => match toPy S n x, toPys S n xs with
    | some p, some ps => some (p :: ps)
    | _, _ => none
end
mutual
theorem toPy_dp {K : PySem.W.Frag} {mg : Str → Option Value} {ι : List Addr} {S : Store} {H : Hp} (rs : RS K mg ι S H) : ∀ (n : Nat) (d : D) (v : V) (p : PyData), RD K ι H d v → toPy S n d = some p → Dp K H v p
  | 0, _, _, _, _, h => by simp [toPy] at h
  | n + 1, .non, v, p, rd, h => by
    simp only [toPy, Option.some.injEq] at h
    subst h; rw [rd.non_inv]; exact .non
  | n + 1, .bl b, v, p, rd, h => by
    simp only [toPy, Option.some.injEq] at h
    subst h; rw [rd.bl_inv]; exact .bl b
  | n + 1, .int i, v, p, rd, h => by
    simp only [toPy, Option.some.injEq] at h
    subst h; rw [rd.int_inv]; exact .int i
  | n + 1, .str x, v, p, rd, h => by
    simp only [toPy, Option.some.injEq] at h
    subst h; rw [rd.str_inv]; exact .str x
  | n + 1, .tup xs, v, p, rd, h => by
    simp only [toPy, Option.map_eq_some_iff] at h
    obtain ⟨ps, h1, rfl⟩ := h
    obtain ⟨a, vs, rfl, ha, r⟩ := rd.tup_inv
    exact .tup ha (toPys_dp rs n xs vs ps r h1)
  | n + 1, .fro xs, v, p, rd, h => by
    simp only [toPy, Option.map_eq_some_iff] at h
    obtain ⟨ps, h1, rfl⟩ := h
    obtain ⟨a, vs, rfl, ha, r⟩ := rd.fro_inv
    exact .lst ha.sql (toPys_dp rs n xs vs ps r h1)
  | n + 1, .ref i, v, p, rd, h => by
    simp only [toPy] at h
    split at h
    · rename_i xs hx
      simp only [Option.map_eq_some_iff] at h
      obtain ⟨ps, h1, rfl⟩ := h
      obtain ⟨a, rfl, ha⟩ := rd.ref_inv
      obtain ⟨vs, e1, r⟩ := rs.get' hx ha
      exact .lst (SqL.of e1) (toPys_dp rs n xs vs ps r h1)
    · cases h
theorem toPys_dp {K : PySem.W.Frag} {mg : Str → Option Value} {ι : List Addr} {S : Store} {H : Hp} (rs : RS K mg ι S H) : ∀ (n : Nat) (ds : List D) (vs : List V) (ps : List PyData), RDs K ι H ds vs → toPys S n ds = some ps → DpAll K H vs ps
  | 0, _, _, _, _, h => by simp [toPys] at h
  | n + 1, [], vs, ps, r, h => by
    simp only [toPys, Option.some.injEq] at h
    subst h
    cases r
    exact .nil
  | n + 1, x :: xs, vs, ps, r, h => by
    cases r with
    | cons r1 r2 =>
      simp only [toPys] at h
      split at h
      · rename_i p ps' h1 h2
        cases h
        exact .cons (toPy_dp rs n x _ p r1 h1) (toPys_dp rs n xs _ ps' r2 h2)
      · cases h
end
def fuelD : Nat := 140
def gEqO (neg : Bool) : D → D → Store → Res D := fun x y S => match toPy S fuelD x, toPy S fuelD y with
  | some p, some q => if SeqAt.shaped p = true ∧ SeqAt.shaped q = true then .ok (.bl (if neg then !PyData.eqv p q else PyData.eqv p q)) S else .no
  | _, _ => .no
/-- == and != : texts of any signs, otherwise data -/
def gEqB (neg : Bool) : D → D → Store → Res D := fun x y S => match x, y with
  | .str a, .str b => .ok (.bl (if neg then !decide (a = b) else decide (a = b))) S
  | x, y => gEqO neg x y S
abbrev gEq := gEqB false
abbrev gNe := gEqB true
theorem calm_eq {neg : Bool} : Calm2 (gEqB neg) := fun d e S c v S' h => by
  unfold gEqB at h
  split at h
  · cases h
  · unfold gEqO at h
    split at h
    · split at h <;> cases h
    · cases h
section
variable {X : Cx}
theorem o_eq (hu : X.A.units + 64 < cLine) : OpR X (compareOp .Eq) (r2 X.K X.mg gEq) := by
  intro pins s σ H x y v u Q I rx ry q
  obtain ⟨ι, S, d, e, rs, rd, re, fin⟩ := q
  unfold gEq gEqB at fin
  split at fin
  · rename_i a b
    rw [rd.str_inv] at rx
    rw [re.str_inv] at ry
    refine op_eq pins s σ H _ _ v u Q I rx ry ⟨rfl, ?_⟩
    have z : decide (V.str a = V.str b) = decide (a = b) := by simp
    rw [z]
    exact fin ι H _ (Ext.refl _ _) rs (.bl _)
  · unfold gEqO at fin
    split at fin
    · rename_i p q h1 h2
      split at fin
      · rename_i hs
        exact op_eqD hu pins s σ H x y v u Q I rx ry ⟨p, q, toPy_dp rs _ _ _ _ rd h1, toPy_dp rs _ _ _ _ re h2, hs.1, hs.2, fin ι H _ (Ext.refl _ _) rs (.bl _)⟩
      · exact fin.elim
    · exact fin.elim
theorem o_ne (hu : X.A.units + 64 < cLine) : OpR X (compareOp .NotEq) (r2 X.K X.mg gNe) := by
  intro pins s σ H x y v u Q I rx ry q
  obtain ⟨ι, S, d, e, rs, rd, re, fin⟩ := q
  unfold gNe gEqB at fin
  split at fin
  · rename_i a b
    rw [rd.str_inv] at rx
    rw [re.str_inv] at ry
    refine op_ne pins s σ H _ _ v u Q I rx ry ⟨rfl, ?_⟩
    have z : decide (V.str a = V.str b) = decide (a = b) := by simp
    rw [z]
    exact fin ι H _ (Ext.refl _ _) rs (.bl _)
  · unfold gEqO at fin
    split at fin
    · rename_i p q h1 h2
      split at fin
      · rename_i hs
        exact op_neD hu pins s σ H x y v u Q I rx ry ⟨p, q, toPy_dp rs _ _ _ _ rd h1, toPy_dp rs _ _ _ _ re h2, hs.1, hs.2, fin ι H _ (Ext.refl _ _) rs (.bl _)⟩
      · exact fin.elim
    · exact fin.elim
end
/-! ### is -/
def isNonD : D → Bool
  | .non => true
  | _ => false
def gIs (neg : Bool) : D → D → Store → Res D := fun x y S => match y with
  | .non => .ok (.bl (isNonD x != neg)) S
  | .bl b => match x with
    | .bl a => .ok (.bl ((a == b) != neg)) S
    | _ => .no
  | _ => .no
theorem calm_is {neg : Bool} : Calm2 (gIs neg) := fun d e S c v S' h => by
  unfold gIs at h
  split at h
  · cases h
  · split at h <;> cases h
  · cases h
section
variable {X : Cx}
theorem RD.isNon {K : PySem.W.Frag} {ι : List Addr} {H : Hp} {d : D} {v : V} (h : RD K ι H d v) : decide (v = .non) = isNonD d := by
  cases h <;> simp [isNonD]
theorem o_is : OpR X (compareOp .Is) (r2 X.K X.mg (gIs false)) := by
  intro pins s σ H x y v u Q I rx ry q
  obtain ⟨ι, S, d, e, rs, rd, re, fin⟩ := q
  unfold gIs at fin
  split at fin
  · rw [re.non_inv] at ry
    refine op_isN pins s σ H x _ v u Q I rx ry ⟨rfl, ?_⟩
    rw [rd.isNon]
    have := fin ι H _ (Ext.refl _ _) rs (.bl _)
    simpa using this
  · split at fin
    · rename_i b _ a
      rw [re.bl_inv] at ry
      rw [rd.bl_inv] at rx
      refine op_isBl pins s σ H _ _ v u Q I rx ry ⟨a, b, rfl, rfl, ?_⟩
      have e : decide (a = b) = ((a == b) != false) := by cases a <;> cases b <;> rfl
      rw [e]
      exact fin ι H _ (Ext.refl _ _) rs (.bl _)
    · exact fin.elim
  · exact fin.elim
theorem o_isnot : OpR X (compareOp .IsNot) (r2 X.K X.mg (gIs true)) := by
  intro pins s σ H x y v u Q I rx ry q
  obtain ⟨ι, S, d, e, rs, rd, re, fin⟩ := q
  unfold gIs at fin
  split at fin
  · rw [re.non_inv] at ry
    refine op_notN pins s σ H x _ v u Q I rx ry ⟨rfl, ?_⟩
    rw [rd.isNon]
    have := fin ι H _ (Ext.refl _ _) rs (.bl _)
    simpa using this
  · split at fin
    · rename_i b _ a
      rw [re.bl_inv] at ry
      rw [rd.bl_inv] at rx
      refine op_notBl pins s σ H _ _ v u Q I rx ry ⟨a, b, rfl, rfl, ?_⟩
      have e : (!decide (a = b)) = ((a == b) != true) := by cases a <;> cases b <;> rfl
      rw [e]
      exact fin ι H _ (Ext.refl _ _) rs (.bl _)
    · exact fin.elim
  · exact fin.elim
def gNeg : D → Store → Res D := fun x S => match x with
  | .int i => .ok (.int (-i)) S
  | _ => .no
theorem calm_neg : Calm1 gNeg := fun d S c v S' h => by
  unfold gNeg at h
  split at h <;> cases h
theorem o_neg : UnR X (unaryOp .USub) (r1 X.K X.mg gNeg) := by
  intro pins s σ H x v Q I rx q
  obtain ⟨ι, S, d, rs, rd, fin⟩ := q
  unfold gNeg at fin
  split at fin
  · rename_i i
    rw [rd.int_inv] at rx
    exact un_neg pins s σ H _ v Q I rx ⟨i, rfl, fin ι H _ (Ext.refl _ _) rs (.int _)⟩
  · exact fin.elim
end
end MI

set_option Elab.async false
set_option linter.all false
set_option maxRecDepth 100000
namespace MI
open PySem PySem.Spec PyProof.Rows L2

/-! ### equality of values, to the letter -/
mutual
def D.beq : D → D → Bool
  | .non, .non => true
  | .bl a, .bl b => a == b
  | .int a, .int b => a == b
  | .str a, .str b => decide (a = b)
  | .tup xs, .tup ys => D.beqs xs ys
  | .fro xs, .fro ys => D.beqs xs ys
  | .ref i, .ref j => i == j
  | _, _ => false
def D.beqs : List D → List D → Bool
  | [], [] => true
  | x :: xs, y :: ys => D.beq x y && D.beqs xs ys
  | _, _ => false
end
mutual
theorem D.beq_refl : ∀ d : D, D.beq d d = true
  | .non => by simp [D.beq]
  | .bl _ => by simp [D.beq]
  | .int _ => by simp [D.beq]
  | .str _ => by simp [D.beq]
  | .tup xs => by simp only [D.beq]; exact D.beqs_refl xs
  | .fro xs => by simp only [D.beq]; exact D.beqs_refl xs
  | .ref _ => by simp [D.beq]
theorem D.beqs_refl : ∀ ds : List D, D.beqs ds ds = true
  | [] => by simp [D.beqs]
  | x :: xs => by simp only [D.beqs, D.beq_refl x, D.beqs_refl xs, Bool.and_true]
end
mutual
theorem D.beq_eq : ∀ (d e : D), D.beq d e = true → d = e
  | .non, e, h => by cases e <;> simp [D.beq] at h ⊢
  | .bl _, e, h => by cases e <;> simp [D.beq] at h ⊢; exact h
  | .int _, e, h => by cases e <;> simp [D.beq] at h ⊢; exact h
  | .str _, e, h => by cases e <;> simp [D.beq] at h ⊢; exact h
  | .tup xs, e, h => by cases e <;> simp [D.beq] at h ⊢; exact D.beqs_eq xs _ h
  | .fro xs, e, h => by cases e <;> simp [D.beq] at h ⊢; exact D.beqs_eq xs _ h
  | .ref _, e, h => by cases e <;> simp [D.beq] at h ⊢; exact h
theorem D.beqs_eq : ∀ (ds es : List D), D.beqs ds es = true → ds = es
  | [], es, h => by cases es <;> simp [D.beqs] at h ⊢
  | x :: xs, es, h => by
    cases es with
    | nil => simp [D.beqs] at h
    | cons y ys =>
      simp only [D.beqs, Bool.and_eq_true] at h
      rw [D.beq_eq x y h.1, D.beqs_eq xs ys h.2]
end

/-! ### what is walked -/
structure Src where
  cells : List (Nat × List D)
  items : List D
def cellIs (S : Store) (p : Nat × List D) : Bool := match S[p.1]? with
  | some (.lst xs) => D.beqs xs p.2
  | _ => false
def Src.ok (s : Src) (S : Store) : Bool := s.cells.all (cellIs S)
theorem cellIs_get {S : Store} {p : Nat × List D} (h : cellIs S p = true) : S[p.1]? = some (.lst p.2) := by
  unfold cellIs at h
  split at h
  · rename_i xs e
    rw [e, D.beqs_eq _ _ h]
  · cases h
theorem cellIs_of {S : Store} {a : Nat} {ds : List D} (h : S[a]? = some (.lst ds)) : cellIs S (a, ds) = true := by
  unfold cellIs
  simp only [h]
  exact D.beqs_refl ds
/-- J walks src, wherever its lists stand as they stood -/
def Wk (K : PySem.W.Frag) (mg : Str → Option Value) (ι : List Addr) (H : Hp) (src : Src) (J : It) : Prop :=
  ∀ ι1 S1 H1, Mo ι H ι1 H1 → RS K mg ι1 S1 H1 → src.ok S1 = true → ∀ i, (src.items.length ≤ i → J.stop i H1) ∧
    ∀ d, src.items[i]? = some d → J.go i H1 ∧ ∀ x H2, J.yld i H1 x H2 → Ext ι1 H1 ι1 H2 ∧ RS K mg ι1 S1 H2 ∧ RD K ι1 H2 d x
theorem Wk.weak {K : PySem.W.Frag} {mg : Str → Option Value} {ι ι' : List Addr} {H H' : Hp} {src : Src} {J : It} (x : Ext ι H ι' H') (h : Wk K mg ι H src J) : Wk K mg ι' H' src J := fun ι1 S1 H1 y => h ι1 S1 H1 (x.mo.trans y)
def tI (K : PySem.W.Frag) (mg : Str → Option Value) (W : WX) (m : M Src) : TI := tG K mg W (fun ι H src J => Wk K mg ι H src J) m
abbrev JI (X : Cx) (W : WX) (tg iter : Expr) (m : M Src) : Prop := PI X tg iter (tI X.K X.mg W m)
theorem _root_.L2.PI.imp {X : Cx} {tg e : Expr} {t t' : TI} (h : PI X tg e t) (q : ∀ σ H R, t' σ H R → t σ H R) : PI X tg e t' := ⟨fun pins s σ H R I hw => h.run pins s σ H R I (q _ _ _ hw)⟩
/-- a list or a tuple by its value -/
def srcOf (d : D) (S : Store) : Res Src := match d with
  | .tup xs => .ok ⟨[], xs⟩ S
  | .fro xs => .ok ⟨[], xs⟩ S
  | .ref a => match S[a]? with
    | some (.lst xs) => .ok ⟨[(a, xs)], xs⟩ S
    | _ => .no
  | _ => .no
def mSrc (m : M D) : M Src := fun ρ S => (m ρ S).bind srcOf
theorem wk_tup {K : PySem.W.Frag} {mg : Str → Option Value} {ι : List Addr} {H : Hp} {a : Addr} {vs : List V} {xs : List D} (h : SqT K H a vs) (r : RDs K ι H xs vs) : Wk K mg ι H ⟨[], xs⟩ (Itt K a) := fun ι1 S1 H1 x rs _ i => by
  have h1 := x.sqT h
  have r1 := r.monoM x
  refine ⟨fun hl => ⟨vs, h1, by rw [← r1.length]; exact hl⟩, fun d hd => ?_⟩
  obtain ⟨v, hv, rd⟩ := r1.get hd
  refine ⟨⟨vs, v, h1, hv⟩, fun y H2 hy => ?_⟩
  obtain ⟨rfl, hf⟩ := hy
  have e := hf vs h1
  rw [hv] at e
  cases e
  exact ⟨Ext.refl _ _, rs, rd⟩
theorem wk_fro {K : PySem.W.Frag} {mg : Str → Option Value} {ι : List Addr} {H : Hp} {a : Addr} {vs : List V} {xs : List D} (h : SqF K H a vs) (r : RDs K ι H xs vs) : Wk K mg ι H ⟨[], xs⟩ (Itl K a) := fun ι1 S1 H1 x rs _ i => by
  have h1 : SqL K H1 a vs := (x.sqF h).sql
  have r1 := r.monoM x
  refine ⟨fun hl => ⟨vs, h1, by rw [← r1.length]; exact hl⟩, fun d hd => ?_⟩
  obtain ⟨v, hv, rd⟩ := r1.get hd
  refine ⟨⟨vs, v, h1, hv⟩, fun y H2 hy => ?_⟩
  obtain ⟨rfl, hf⟩ := hy
  have e := hf vs h1
  rw [hv] at e
  cases e
  exact ⟨Ext.refl _ _, rs, rd⟩
theorem wk_cell {K : PySem.W.Frag} {mg : Str → Option Value} {ι : List Addr} {H : Hp} {a : Addr} {i : Nat} {xs : List D} (ha : ι[i]? = some a) : Wk K mg ι H ⟨[(i, xs)], xs⟩ (Itl K a) := fun ι1 S1 H1 x rs hok j => by
  have hc : S1[i]? = some (.lst xs) := cellIs_get (p := (i, xs)) (by simpa [Src.ok] using hok)
  obtain ⟨vs, e1, r1⟩ := rs.get' hc (x.at ha)
  have h1 : SqL K H1 a vs := SqL.of e1
  refine ⟨fun hl => ⟨vs, h1, by rw [← r1.length]; exact hl⟩, fun d hd => ?_⟩
  obtain ⟨v, hv, rd⟩ := r1.get hd
  refine ⟨⟨vs, v, h1, hv⟩, fun y H2 hy => ?_⟩
  obtain ⟨rfl, hf⟩ := hy
  have e := hf vs h1
  rw [hv] at e
  cases e
  exact ⟨Ext.refl _ _, rs, rd⟩
/-- for .. in e, e a tuple or a list -/
theorem pi_seq {X : Cx} {tg l : Expr} {tl : TE} (hl : PE X l tl) : PI X tg l (fun σ H R => tl σ H fun x H1 => ∃ a, x = .ref a ∧ (((∃ xs, SqL X.K H1 a xs) ∧ R (Itl X.K a) H1) ∨ ((∃ xs, SqT X.K H1 a xs) ∧ R (Itt X.K a) H1))) := by
  refine ⟨fun pins s σ H R I h => ?_⟩
  refine thn (hl.run pins s σ H _ I h) fun v s1 ⟨x, H1, I1, r1, q1⟩ => ?_
  obtain ⟨a, e, q⟩ := q1
  subst e
  cases r1
  rcases q with ⟨⟨xs, hq⟩, q⟩ | ⟨⟨xs, hq⟩, q⟩
  · obtain ⟨its, rv, p, hz⟩ := I1.list hq
    refine wpAny_pyIter_list p.isList ?_
    refine ⟨s1.heap.objs.size, [s1.heap.objs.size], _, _, H1, rfl, I1.kept (t' := s1.toks) fun b o e => Heap.get?_push_of_some _ e, turn_list a _, ⟨_, Heap.get?_push_size _ rfl, rfl, rfl⟩, fun b hb => ?_, q⟩
    have e : b = s1.heap.objs.size := by simpa using hb
    subst e
    exact I1.fpOk (Nat.le_refl _) (I1.hok.fresh (Nat.le_refl _))
  · obtain ⟨its, rv, p, hz⟩ := I1.tuple hq
    refine wpAny_pyIter_tuple (show s1.heap.IsTuple a its.toArray from p) ?_
    refine ⟨s1.heap.objs.size, [s1.heap.objs.size], _, _, H1, rfl, I1.kept (t' := s1.toks) fun b o e => Heap.get?_push_of_some _ e, turn_tuple a _, ⟨_, Heap.get?_push_size _ rfl, rfl, rfl⟩, fun b hb => ?_, q⟩
    have e : b = s1.heap.objs.size := by simpa using hb
    subst e
    exact I1.fpOk (Nat.le_refl _) (I1.hok.fresh (Nat.le_refl _))
theorem j_src {X : Cx} {W : WX} {tg e : Expr} {m : M D} (h : JE X W e m) : JI X W tg e (mSrc m) := (pi_seq h).imp fun σ H R h => by
  obtain ⟨ι, ρ, S, rs, re, f⟩ := tG_seq (R := fun ι H d v => RD X.K ι H d v) (m := m) (k := fun _ => srcOf) h
  refine ⟨ι, ρ, S, rs, re, f.imp fun x H1 ⟨ι1, ρ1, d, S1, rs1, re1, rd1, f1⟩ => ?_⟩
  cases d with
  | tup xs =>
    obtain ⟨a, vs, rfl, ha, r⟩ := rd1.tup_inv
    exact ⟨a, rfl, .inr ⟨⟨vs, ha⟩, f1 ι1 H1 _ (Ext.refl _ _) rs1 (wk_tup ha r)⟩⟩
  | fro xs =>
    obtain ⟨a, vs, rfl, ha, r⟩ := rd1.fro_inv
    exact ⟨a, rfl, .inl ⟨⟨vs, ha.sql⟩, f1 ι1 H1 _ (Ext.refl _ _) rs1 (wk_fro ha r)⟩⟩
  | ref i =>
    obtain ⟨a, rfl, ha⟩ := rd1.ref_inv
    simp only [srcOf] at f1
    split at f1
    · rename_i xs hx
      obtain ⟨vs, e1, r⟩ := rs1.get' hx ha
      exact ⟨a, rfl, .inl ⟨⟨vs, SqL.of e1⟩, f1 ι1 H1 _ (Ext.refl _ _) rs1 (wk_cell ha)⟩⟩
    · exact f1.elim
  | non => exact f1.elim
  | bl _ => exact f1.elim
  | int _ => exact f1.elim
  | str _ => exact f1.elim
/-! ranges -/
def rng (lo : Int) (n : Nat) : List D := (List.range n).map fun (i : Nat) => D.int (lo + (i : Int))
def small62 (i : Int) : Bool := decide (-(2 ^ 62) ≤ i ∧ i < 2 ^ 62)
def gRng1 (d : D) (S : Store) : Res Src := match d with
  | .int j => if small62 j then .ok ⟨[], rng 0 j.toNat⟩ S else .no
  | _ => .no
def gRng2 (d e : D) (S : Store) : Res Src := match d, e with
  | .int i, .int j => if small62 i ∧ small62 j then .ok ⟨[], rng i (j - i).toNat⟩ S else .no
  | _, _ => .no
def mRng1 (m : M D) : M Src := fun ρ S => (m ρ S).bind gRng1
def mRng2 (a b : M D) : M Src := fun ρ S => (a ρ S).bind fun x S1 => (b ρ S1).bind fun y S2 => gRng2 x y S2
theorem wk_rng {K : PySem.W.Frag} {mg : Str → Option Value} {ι : List Addr} {H : Hp} {lo : Int} {n : Nat} : Wk K mg ι H ⟨[], rng lo n⟩ (Itr lo n) := fun ι1 S1 H1 x rs _ i => by
  refine ⟨fun hl => (by simpa [rng] using hl : n ≤ i), fun d hd => ?_⟩
  have hi : i < n := by
    have := (List.getElem?_eq_some_iff.mp hd).1
    simpa [rng] using this
  refine ⟨hi, fun y H2 hy => ?_⟩
  obtain ⟨rfl, rfl⟩ := hy
  unfold rng at hd
  rw [List.getElem?_map, List.getElem?_range hi] at hd
  cases hd
  exact ⟨Ext.refl _ _, rs, .int _⟩
theorem RDs.nil_inv {K : PySem.W.Frag} {ι : List Addr} {H : Hp} {vs : List V} (h : RDs K ι H [] vs) : vs = [] := by cases h; rfl
theorem RDs.cons_inv {K : PySem.W.Frag} {ι : List Addr} {H : Hp} {d : D} {ds : List D} {vs : List V} (h : RDs K ι H (d :: ds) vs) : ∃ v us, vs = v :: us ∧ RD K ι H d v ∧ RDs K ι H ds us := by cases h with | cons h r => exact ⟨_, _, rfl, h, r⟩
theorem j_range1 {X : Cx} {W : WX} {tg a : Expr} {p pos : Pos} {m : M D} (hm : X.mg "range" = none) (ha : JE X W a m) (hg : Gl X "range" := by rfl) (hs : starEach [a] X.env = [(false, eval a X.env)] := by rfl) (hs0 : starEach [a] X.env = (false, eval a X.env) :: starEach [] X.env := by rfl) :
    JI X W tg (.Call (.Name "range" p) [a] [] pos) (mRng1 m) := (pi_range1 hg hm (pa_cons ha pa_nil hs0) hs).imp fun σ H R h => by
  obtain ⟨ι, ρ, S, rs, re, f⟩ := tG_seq (R := fun ι H d v => RD X.K ι H d v) (m := m) (k := fun _ => gRng1) h
  refine ⟨ι, ρ, S, rs, re, f.imp fun x H1 ⟨ι1, ρ1, d, S1, rs1, re1, rd1, f1⟩ => ?_⟩
  unfold gRng1 at f1
  split at f1
  · rename_i j
    split at f1
    · rename_i hj
      rw [rd1.int_inv]
      have hj' := of_decide_eq_true hj
      exact ⟨j, rfl, hj'.1, hj'.2, f1 ι1 H1 _ (Ext.refl _ _) rs1 wk_rng⟩
    · exact f1.elim
  · exact f1.elim
theorem j_range2 {X : Cx} {W : WX} {tg a b : Expr} {p pos : Pos} {m m2 : M D} (hm : X.mg "range" = none) (ha : JE X W a m) (hb : JE X W b m2) (hg : Gl X "range" := by rfl) (hs : starEach [a, b] X.env = [(false, eval a X.env), (false, eval b X.env)] := by rfl) (hs2 : starEach [b] X.env = [(false, eval b X.env)] := by rfl)
    (hs0 : starEach [a, b] X.env = (false, eval a X.env) :: starEach [b] X.env := by rfl) (hs1 : starEach [b] X.env = (false, eval b X.env) :: starEach [] X.env := by rfl) :
    JI X W tg (.Call (.Name "range" p) [a, b] [] pos) (mRng2 m m2) := (pi_range2 hg hm (pa_cons ha (pa_cons hb pa_nil hs1) hs0) hs hs2).imp fun σ H R h => by
  obtain ⟨ι, ρ, S, rs, re, f⟩ := tG_seq (R := fun ι H d v => RD X.K ι H d v) (m := m) (k := fun ρ x S1 => (m2 ρ S1).bind fun y S2 => gRng2 x y S2) h
  refine ⟨ι, ρ, S, rs, re, f.imp fun x H1 ⟨ι1, ρ1, d, S1, rs1, re1, rd1, f1⟩ => ⟨ι1, ρ1, S1, rs1, re1, FinG.imp f1.bind fun y H2 ⟨e, S2, ι2, y2, rs2, rd2, f2⟩ => ?_⟩⟩
  cases d with
  | int i =>
    cases e with
    | int j =>
      simp only [gRng2] at f2
      split at f2
      · rename_i hj
        rw [rd1.int_inv, rd2.int_inv]
        have h1 := of_decide_eq_true hj.1
        have h2 := of_decide_eq_true hj.2
        exact ⟨i, j, rfl, ⟨h1.1, h1.2, h2.1, h2.2⟩, f2 ι2 H2 _ (Ext.refl _ _) rs2 wk_rng⟩
      · exact f2.elim
    | _ => exact f2.elim
  | _ => exact f2.elim

/-! ### targets -/
inductive Tgt where
  | nm (i : Nat) | tp (ts : List Tgt)
mutual
def Tgt.slots : Tgt → List Nat
  | .nm i => [i]
  | .tp ts => Tgt.slotss ts
def Tgt.slotss : List Tgt → List Nat
  | [] => []
  | t :: ts => t.slots ++ Tgt.slotss ts
end
/-- the items of a tuple -/
def tupOf (d : D) : Option (List D) := match d with
  | .tup xs => some xs
  | _ => none
mutual
def asg : Tgt → D → Sl → Option Sl
  | .nm i, d, ρ => some (ρ.set i (some d))
  | .tp ts, d, ρ => match tupOf d with
    | some xs => asgs ts xs ρ
    | none => none
def asgs : List Tgt → List D → Sl → Option Sl
  | [], [], ρ => some ρ
  | t :: ts, d :: ds, ρ => match asg t d ρ with
    | some ρ1 => asgs ts ds ρ1
    | none => none
  | _, _, _ => none
end
def offs (vs : List Nat) (σ σ' : L2.St) : Prop := σ'.length = σ.length ∧ ∀ j, j ∉ vs → σ'[j]? = σ[j]?
theorem offs_wipe {vs : List Nat} {σ σ' : L2.St} (h : offs vs σ σ') : wipe σ' vs = wipe σ vs := by
  have key : ∀ (ws : List Nat) (j : Nat), (wipe σ' ws)[j]? = if j ∈ ws then (if j < σ'.length then some none else none) else σ'[j]? := by
    intro ws
    induction ws with
    | nil => intro j; simp [wipe]
    | cons v ws ih =>
      intro j
      unfold wipe
      by_cases hj : v = j
      · subst hj
        rw [List.getElem?_set]
        simp [wipe_length]
      · rw [List.getElem?_set_ne hj, ih j]
        have : (j ∈ v :: ws) ↔ j ∈ ws := by simp [Ne.symm hj]
        simp only [this]
  have key2 : ∀ (ws : List Nat) (j : Nat), (wipe σ ws)[j]? = if j ∈ ws then (if j < σ.length then some none else none) else σ[j]? := by
    intro ws
    induction ws with
    | nil => intro j; simp [wipe]
    | cons v ws ih =>
      intro j
      unfold wipe
      by_cases hj : v = j
      · subst hj
        rw [List.getElem?_set]
        simp [wipe_length]
      · rw [List.getElem?_set_ne hj, ih j]
        have : (j ∈ v :: ws) ↔ j ∈ ws := by simp [Ne.symm hj]
        simp only [this]
  apply List.ext_getElem?
  intro j
  rw [key vs j, key2 vs j, h.1]
  split
  · rfl
  · exact h.2 j (by assumption)
def tTg (K : PySem.W.Frag) (mg : Str → Option Value) (t : Tgt) : TG := fun v σ H Q => ∃ ι ρ S d ρ', RS K mg ι S H ∧ RE K ι H ρ σ ∧ RD K ι H d v ∧ asg t d ρ = some ρ' ∧ ∀ σ', RE K ι H ρ' σ' → offs t.slots σ σ' → Q σ' H
def tTgs (K : PySem.W.Frag) (mg : Str → Option Value) (t : List Tgt) : TGs := fun v σ H Q => ∃ ι ρ S d ρ', RS K mg ι S H ∧ RE K ι H ρ σ ∧ RDs K ι H d v ∧ asgs t d ρ = some ρ' ∧ ∀ σ', RE K ι H ρ' σ' → offs (Tgt.slotss t) σ σ' → Q σ' H
abbrev JG (X : Cx) (e : Expr) (t : Tgt) : Prop := PG X e (tTg X.K X.mg t)
abbrev JGs (X : Cx) (e : List Expr) (t : List Tgt) : Prop := PGs X e (tTgs X.K X.mg t)
theorem _root_.L2.PG.imp {X : Cx} {e : Expr} {t t' : TG} (h : PG X e t) (q : ∀ v σ H R, t' v σ H R → t v σ H R) : PG X e t' := ⟨fun pins s σ H v u R I r hw => h.run pins s σ H v u R I r (q _ _ _ _ hw)⟩
theorem _root_.L2.PGs.imp {X : Cx} {e : List Expr} {t t' : TGs} (h : PGs X e t) (q : ∀ v σ H R, t' v σ H R → t v σ H R) : PGs X e t' := ⟨fun pins s σ H v u R I r hw => h.run pins s σ H v u R I r (q _ _ _ _ hw)⟩
section
variable {X : Cx} {pos : Pos}
theorem jg_name (i : Nat) {x : Str} (hN : X.N.Nodup) (hi : X.N[i]? = some x) (hx : Loc X.env.scope x) (hf : X.fn x = true ∨ X.env.scope.names.lookup x = some .local := by first | exact .inl rfl | exact .inr rfl | assumption) : JG X (.Name x pos) (.nm i) :=
  (pg_name hN hi hx hf).imp fun v σ H Q ⟨ι, ρ, S, d, ρ', rs, re, rd, e, q⟩ => by
    simp only [asg, Option.some.injEq] at e
    subst e
    exact q _ (re.set i rd) ⟨by simp, fun j hj => List.getElem?_set_ne (by simpa [Tgt.slots, eq_comm] using hj)⟩
theorem jgs_nil : JGs X [] [] := pgs_nil.imp fun v σ H Q ⟨ι, ρ, S, d, ρ', rs, re, rd, e, q⟩ => by
  cases d with
  | nil =>
    simp only [asgs, Option.some.injEq] at e
    subst e
    exact ⟨rd.nil_inv, q σ re ⟨rfl, fun _ _ => rfl⟩⟩
  | cons x xs => simp [asgs] at e
theorem jgs_cons {e : Expr} {es : List Expr} {t : Tgt} {ts : List Tgt} (h1 : JG X e t) (h2 : JGs X es ts) (hs : (assignEach (e :: es) X.env).map (·.2) = assign e X.env :: (assignEach es X.env).map (·.2) := by rfl) : JGs X (e :: es) (t :: ts) :=
  (pgs_cons h1 h2 hs).imp fun v σ H Q ⟨ι, ρ, S, d, ρ', rs, re, rd, e, q⟩ => by
    cases d with
    | nil => simp [asgs] at e
    | cons x xs =>
      obtain ⟨v1, vr, rfl, r1, r2⟩ := rd.cons_inv
      simp only [asgs] at e
      split at e
      · rename_i ρ1 e1
        refine ⟨v1, vr, rfl, ι, ρ, S, x, ρ1, rs, re, r1, e1, fun σ' re' o1 => ?_⟩
        refine ⟨ι, ρ1, S, xs, ρ', rs, re', r2, e, fun σ2 re2 o2 => ?_⟩
        refine q σ2 re2 ⟨o2.1.trans o1.1, fun j hj => ?_⟩
        simp only [Tgt.slotss, List.mem_append, not_or] at hj
        exact (o2.2 j hj.2).trans (o1.2 j hj.1)
      · cases e
theorem asgs_len : ∀ {ts : List Tgt} {ds : List D} {ρ ρ' : Sl}, asgs ts ds ρ = some ρ' → ds.length = ts.length
  | [], [], _, _, _ => rfl
  | t :: ts, d :: ds, ρ, ρ', h => by
    simp only [asgs] at h
    split at h
    · rw [List.length_cons, List.length_cons, asgs_len h]
    · cases h
  | [], _ :: _, _, _, h => by simp [asgs] at h
  | _ :: _, [], _, _, h => by simp [asgs] at h
theorem jg_tup {es : List Expr} {k : Nat} {ts : List Tgt} (hc : X.calm = true) (h : JGs X es ts) (hn : (assignEach es X.env).length = ts.length := by rfl) (hst : (assignEach es X.env).findIdx? (·.1) = none := by rfl) : JG X (.Tuple es k pos) (.tp ts) :=
  (pg_tup hc h hn hst).imp fun v σ H Q ⟨ι, ρ, S, d, ρ', rs, re, rd, e, q⟩ => by
    simp only [asg] at e
    cases d with
    | tup xs =>
      obtain ⟨a, vs, rfl, ha, r⟩ := rd.tup_inv
      simp only [tupOf] at e
      exact ⟨a, vs, rfl, ha, by rw [← r.length]; exact asgs_len e, ι, ρ, S, xs, ρ', rs, re, r, e, fun σ' re' o => q σ' re' (by simpa [Tgt.slots] using o)⟩
    | _ => simp [tupOf] at e
end
end MI

set_option Elab.async false
set_option linter.all false
set_option maxRecDepth 100000
namespace MI
open PySem PySem.Spec PyProof.Rows L2

/-! ### statements -/
inductive SR where
  | next (ρ : Sl) (S : Store) | ret (d : D) (S : Store) | brk (ρ : Sl) (S : Store) | cont (ρ : Sl) (S : Store) | exc (c : Str) (v : D) (ρ : Sl) (S : Store) | no
abbrev MS := Sl → Store → SR
def SR.bindR {α : Type} (r : Res α) (ρ : Sl) (k : α → Store → SR) : SR := match r with
  | .ok a S => k a S
  | .exc c v S => .exc c v ρ S
  | .no => .no
def SR.then (r : SR) (k : Sl → Store → SR) : SR := match r with
  | .next ρ S => k ρ S
  | r => r
def FinS (K : PySem.W.Frag) (mg : Str → Option Value) (W : WX) (ι : List Addr) (H : Hp) (r : SR) (Dn : Ends) : Prop := match r with
  | .next ρ S => ∀ ι' H' σ', Ext ι H ι' H' → RS K mg ι' S H' → RE K ι' H' ρ σ' → Dn.nx σ' H'
  | .brk ρ S => ∀ ι' H' σ', Ext ι H ι' H' → RS K mg ι' S H' → RE K ι' H' ρ σ' → Dn.bk σ' H'
  | .cont ρ S => ∀ ι' H' σ', Ext ι H ι' H' → RS K mg ι' S H' → RE K ι' H' ρ σ' → Dn.ct σ' H'
  | .ret d S => ∀ ι' H' v, Ext ι H ι' H' → RS K mg ι' S H' → RD K ι' H' d v → Dn.rt v H'
  | .exc c d ρ S => ∀ ι' H' σ' C dd fs u, Ext ι H ι' H' → RS K mg ι' S H' → RE K ι' H' ρ σ' → mg c = some (.ref C) → H' dd = some (.xd fs) → fs.lookup ("value" : Str) = some u → RD K ι' H' d u → W (.ref C) (some dd) σ' H'
  | .no => False
section
variable {K : PySem.W.Frag} {mg : Str → Option Value} {W : WX} {ι ι1 : List Addr} {H H1 : Hp}
theorem FinS.weak {r : SR} {Q : Ends} (x : Ext ι H ι1 H1) (h : FinS K mg W ι H r Q) : FinS K mg W ι1 H1 r Q := by
  cases r with
  | next ρ S => exact fun ι' H' σ' y => h ι' H' σ' (x.trans y)
  | brk ρ S => exact fun ι' H' σ' y => h ι' H' σ' (x.trans y)
  | cont ρ S => exact fun ι' H' σ' y => h ι' H' σ' (x.trans y)
  | ret d S => exact fun ι' H' σ' y => h ι' H' σ' (x.trans y)
  | exc c d ρ S => exact fun ι' H' σ' C dd fs u y => h ι' H' σ' C dd fs u (x.trans y)
  | no => exact h
theorem FinS.bindR {α β : Type} {R : List Addr → Hp → α → β → Prop} {r : Res α} {ρ : Sl} {σ : L2.St} {k : α → Store → SR} {Q : Ends} (re : RE K ι H ρ σ) (h : FinS K mg W ι H (SR.bindR r ρ k) Q) :
    FinG K mg W R σ ι H r (fun x H1 => ∃ a S1 ι1, Ext ι H ι1 H1 ∧ RS K mg ι1 S1 H1 ∧ R ι1 H1 a x ∧ FinS K mg W ι1 H1 (k a S1) Q) := by
  cases r with
  | ok a S => exact fun ι' H' v y rs rd => ⟨a, S, ι', y, rs, rd, FinS.weak y h⟩
  | exc c d S => exact fun ι' H' C dd fs u y rs => h ι' H' σ C dd fs u y rs (re.mono y)
  | no => exact h
end
def tS (K : PySem.W.Frag) (mg : Str → Option Value) (W : WX) (m : MS) : TS := fun Dn σ H => ∃ ι ρ S, RS K mg ι S H ∧ RE K ι H ρ σ ∧ FinS K mg W ι H (m ρ S) Dn
abbrev JS (X : Cx) (W : WX) (st : Stmt) (m : MS) : Prop := PS X st (tS X.K X.mg W m)
abbrev JSs (X : Cx) (W : WX) (st : List Stmt) (m : MS) : Prop := PSs X st (tS X.K X.mg W m)
theorem tS_seq {α β : Type} {K : PySem.W.Frag} {mg : Str → Option Value} {W : WX} {R : List Addr → Hp → α → β → Prop} {m : M α} {k : Sl → α → Store → SR} {σ : L2.St} {H : Hp} {Q : Ends}
    (h : tS K mg W (fun ρ S => SR.bindR (m ρ S) ρ (k ρ)) Q σ H) : tG K mg W R m σ H (fun x H1 => ∃ ι1 ρ a S1, RS K mg ι1 S1 H1 ∧ RE K ι1 H1 ρ σ ∧ R ι1 H1 a x ∧ FinS K mg W ι1 H1 (k ρ a S1) Q) := by
  obtain ⟨ι, ρ, S, rs, re, f⟩ := h
  refine ⟨ι, ρ, S, rs, re, FinG.imp (f.bindR re) fun x H1 q => ?_⟩
  obtain ⟨a, S1, ι1, y, rs1, rd, f1⟩ := q
  exact ⟨ι1, ρ, a, S1, rs1, re.mono y, rd, f1⟩
def sPass : MS := fun ρ S => .next ρ S
def sSeq (a b : MS) : MS := fun ρ S => (a ρ S).then b
def sIf (c : M Bool) (a b : MS) : MS := fun ρ S => SR.bindR (c ρ S) ρ fun c S1 => if c = true then a ρ S1 else b ρ S1
def sRet (m : M D) : MS := fun ρ S => SR.bindR (m ρ S) ρ fun d S1 => .ret d S1
def sExpr (m : M D) : MS := fun ρ S => SR.bindR (m ρ S) ρ fun _ S1 => .next ρ S1
def sBrk : MS := fun ρ S => .brk ρ S
def sCont : MS := fun ρ S => .cont ρ S
def sAsg (t : Tgt) (m : M D) : MS := fun ρ S => SR.bindR (m ρ S) ρ fun d S1 => match asg t d ρ with
  | some ρ' => .next ρ' S1
  | none => .no
def sPar (i j : Nat) (a b : M D) : MS := fun ρ S => SR.bindR (a ρ S) ρ fun x S1 => SR.bindR (b ρ S1) ρ fun y S2 => .next ((ρ.set i (some x)).set j (some y)) S2
section
variable {X : Cx} {W : WX} {st : Stmt} {rest sa sb : List Stmt} {m ma mb : MS} {e a b c : Expr} {me m1 m2 : M D} {mc : M Bool} {pos : Pos}
theorem js_nil : JSs X W [] sPass := pss_nil.imp fun Dn σ H ⟨ι, ρ, S, rs, re, f⟩ => f ι H σ (Ext.refl _ _) rs re
theorem js_cons (h1 : JS X W st ma) (h2 : JSs X W rest mb) : JSs X W (st :: rest) (sSeq ma mb) := (pss_cons h1 h2).imp fun Dn σ H ⟨ι, ρ, S, rs, re, f⟩ => by
  refine ⟨ι, ρ, S, rs, re, ?_⟩
  unfold sSeq at f
  cases h : ma ρ S with
  | next ρ' S' =>
    rw [h] at f
    exact fun ι' H' σ' y rs' re' => ⟨ι', ρ', S', rs', re', FinS.weak y f⟩
  | ret d S' => rw [h] at f; exact f
  | brk ρ' S' => rw [h] at f; exact f
  | cont ρ' S' => rw [h] at f; exact f
  | exc c d ρ' S' => rw [h] at f; exact f
  | no => rw [h] at f; exact f
theorem js_one (h1 : JS X W st ma) : JSs X W [st] ma := pss_one h1
theorem js_pass : JS X W (.Pass pos) sPass := ps_pass.imp fun Dn σ H ⟨ι, ρ, S, rs, re, f⟩ => f ι H σ (Ext.refl _ _) rs re
theorem js_brk : JS X W (.Break pos) sBrk := ps_break.imp fun Dn σ H ⟨ι, ρ, S, rs, re, f⟩ => f ι H σ (Ext.refl _ _) rs re
theorem js_cont : JS X W (.Continue pos) sCont := ps_continue.imp fun Dn σ H ⟨ι, ρ, S, rs, re, f⟩ => f ι H σ (Ext.refl _ _) rs re
theorem js_if (hc : JT X W c mc) (ha : JSs X W sa ma) (hb : JSs X W sb mb) : JS X W (.If c sa sb pos) (sIf mc ma mb) := (ps_if hc ha hb).imp fun Dn σ H h => by
  obtain ⟨ι, ρ, S, rs, re, f⟩ := tS_seq (R := fun _ _ b c => b = c) (m := mc) (k := fun ρ c S1 => if c = true then ma ρ S1 else mb ρ S1) h
  refine ⟨ι, ρ, S, rs, re, f.imp fun x H1 ⟨ι1, ρ1, d, S1, rs1, re1, rd1, f1⟩ => ?_⟩
  subst rd1
  cases d with
  | true => exact ⟨ι1, ρ1, S1, rs1, re1, f1⟩
  | false => exact ⟨ι1, ρ1, S1, rs1, re1, f1⟩
theorem js_ret (he : JE X W e me) : JS X W (.Return (some e) pos) (sRet me) := (ps_ret he).imp fun Dn σ H h => by
  obtain ⟨ι, ρ, S, rs, re, f⟩ := tS_seq (R := fun ι H d v => RD X.K ι H d v) (m := me) (k := fun ρ d S1 => .ret d S1) h
  exact ⟨ι, ρ, S, rs, re, f.imp fun x H1 ⟨ι1, ρ1, d, S1, rs1, re1, rd1, f1⟩ => f1 ι1 H1 x (Ext.refl _ _) rs1 rd1⟩
theorem js_retN : JS X W (.Return none pos) (fun _ S => .ret .non S) := ps_retN.imp fun Dn σ H ⟨ι, ρ, S, rs, re, f⟩ => f ι H .non (Ext.refl _ _) rs .non
theorem js_expr (he : JE X W e me) (hs : swapsWith e none pos.line X.env = pure false := by rfl) : JS X W (.Expr e pos) (sExpr me) := (ps_expr he hs).imp fun Dn σ H h => by
  obtain ⟨ι, ρ, S, rs, re, f⟩ := tS_seq (R := fun ι H d v => RD X.K ι H d v) (m := me) (k := fun ρ d S1 => .next ρ S1) h
  exact ⟨ι, ρ, S, rs, re, f.imp fun x H1 ⟨ι1, ρ1, d, S1, rs1, re1, rd1, f1⟩ => f1 ι1 H1 σ (Ext.refl _ _) rs1 re1⟩
theorem fin_asg {K : PySem.W.Frag} {mg : Str → Option Value} {ι1 : List Addr} {ρ1 : Sl} {S1 : Store} {H1 : Hp} {σ : L2.St} {d : D} {x : V} {t : Tgt} {Dn : Ends} (rs1 : RS K mg ι1 S1 H1) (re1 : RE K ι1 H1 ρ1 σ) (rd1 : RD K ι1 H1 d x)
    (f1 : FinS K mg W ι1 H1 (match asg t d ρ1 with
      | some ρ' => .next ρ' S1
      | none => .no) Dn) : tTg K mg t x σ H1 Dn.nx := by
  cases h : asg t d ρ1 with
  | none => rw [h] at f1; exact f1.elim
  | some ρ' =>
    rw [h] at f1
    exact ⟨ι1, ρ1, S1, d, ρ', rs1, re1, rd1, h, fun σ' re' _ => f1 ι1 H1 σ' (Ext.refl _ _) rs1 re'⟩
theorem js_asg {tg : Expr} {t : Tgt} (hg : JG X tg t) (he : JE X W e me) (hs : swapsWithSole [tg] e pos.line X.env = pure false := by rfl) (hw : swappedStores [tg] e X.env = pure none := by rfl)
    (h1 : (assignEach [tg] X.env).map (·.2) = [assign tg X.env] := by rfl) : JS X W (.Assign [tg] e pos) (sAsg t me) := (ps_asg he hg hs hw h1).imp fun Dn σ H h => by
  obtain ⟨ι, ρ, S, rs, re, f⟩ := tS_seq (R := fun ι H d v => RD X.K ι H d v) (m := me) (k := fun ρ d S1 => match asg t d ρ with
    | some ρ' => .next ρ' S1
    | none => .no) h
  exact ⟨ι, ρ, S, rs, re, f.imp fun x H1 ⟨ι1, ρ1, d, S1, rs1, re1, rd1, f1⟩ => fin_asg rs1 re1 rd1 f1⟩
theorem js_set (i : Nat) {x : Str} {pos' : Pos} (hN : X.N.Nodup) (hi : X.N[i]? = some x) (hx : Loc X.env.scope x) (he : JE X W e me) (hs : swapsWith e (some (.Name x pos')) pos.line X.env = pure false := by rfl) (hf : X.fn x = true ∨ X.env.scope.names.lookup x = some .local := by first | exact .inl rfl | exact .inr rfl | assumption) :
    JS X W (.Assign [.Name x pos'] e pos) (sAsg (.nm i) me) := (ps_set hN hi hx he hs hf).imp fun Dn σ H h => by
  obtain ⟨ι, ρ, S, rs, re, f⟩ := tS_seq (R := fun ι H d v => RD X.K ι H d v) (m := me) (k := fun ρ d S1 => match asg (.nm i) d ρ with
    | some ρ' => .next ρ' S1
    | none => .no) h
  refine ⟨ι, ρ, S, rs, re, f.imp fun x H1 ⟨ι1, ρ1, d, S1, rs1, re1, rd1, f1⟩ => ?_⟩
  exact f1 ι1 H1 _ (Ext.refl _ _) rs1 (re1.set i rd1)
theorem js_par (i j : Nat) {x y : Str} {px py pt : Pos} {kt k2 pt2} (hc : X.calm = true) (hN : X.N.Nodup) (hi : X.N[i]? = some x) (hj : X.N[j]? = some y) (hij : i ≠ j)
    (hx : X.env.scope.names.lookup x = some .local) (hy : X.env.scope.names.lookup y = some .local) (ha : JE X W a m1) (hb : JE X W b m2) 
    (hw : swappedStores [.Tuple [.Name x px, .Name y py] kt pt] (.Tuple [a, b] k2 pt2) X.env = pure (some [x, y]))
    (hs : swapsWithSole [.Tuple [.Name x px, .Name y py] kt pt] (.Tuple [a, b] k2 pt2) pos.line X.env = pure false := by rfl) (hs0 : starEach [a, b] X.env = (false, eval a X.env) :: starEach [b] X.env := by rfl) (hs1 : starEach [b] X.env = (false, eval b X.env) :: starEach [] X.env := by rfl) :
    JS X W (.Assign [.Tuple [.Name x px, .Name y py] kt pt] (.Tuple [a, b] k2 pt2) pos) (sPar i j m1 m2) := (ps_par hc hN hi hj hij hx hy (pa_cons ha (pa_cons hb pa_nil hs1) hs0) hw hs).imp fun Dn σ H h => by
  obtain ⟨ι, ρ, S, rs, re, f⟩ := tS_seq (R := fun ι H d v => RD X.K ι H d v) (m := m1) (k := fun ρ x S1 => SR.bindR (m2 ρ S1) ρ fun y S2 => .next ((ρ.set i (some x)).set j (some y)) S2) h
  refine ⟨ι, ρ, S, rs, re, f.imp fun x H1 ⟨ι1, ρ1, d, S1, rs1, re1, rd1, f1⟩ => ⟨ι1, ρ1, S1, rs1, re1, FinG.imp (f1.bindR re1) fun y H2 ⟨e, S2, ι2, y2, rs2, rd2, f2⟩ => ?_⟩⟩
  exact ⟨x, y, rfl, f2 ι2 H2 _ (Ext.refl _ _) rs2 (((re1.mono y2).set i (rd1.mono y2)).set j rd2)⟩
end

/-! ### loops -/
def forL (t : Tgt) (body : MS) (src : Src) : List D → Sl → Store → SR
  | [], ρ, S => if src.ok S = true then .next ρ S else .no
  | d :: ds, ρ, S => if src.ok S = true then match asg t d ρ with
      | none => .no
      | some ρ1 => match body ρ1 S with
        | .next ρ2 S2 => forL t body src ds ρ2 S2
        | .cont ρ2 S2 => forL t body src ds ρ2 S2
        | .brk ρ2 S2 => .next ρ2 S2
        | r => r
    else .no
def sFor (t : Tgt) (m : M Src) (body : MS) : MS := fun ρ S => SR.bindR (m ρ S) ρ fun src S1 => forL t body src src.items ρ S1
theorem js_for {X : Cx} {W : WX} {tg iter : Expr} {body : List Stmt} {t : Tgt} {mi : M Src} {mb : MS} {pos : Pos} (hp : PassesOwn (model X.prog X.w) X.A X.env X.xe) (hc : X.calm = true) (hi : JI X W tg iter mi) (hg : JG X tg t) (hb : JSs X W body mb)
    (hs : ∀ x, foldedSetIterable iter X.env x = pure x := by intro _; rfl) : JS X W (.For tg iter body [] pos) (sFor t mi mb) := (ps_for hp hc hi hg hb hs).imp fun Dn σ H h => by
  obtain ⟨ι, ρ, S, rs, re, f⟩ := tS_seq (R := fun ι H src J => Wk X.K X.mg ι H src J) (m := mi) (k := fun ρ src S1 => forL t mb src src.items ρ S1) h
  refine ⟨ι, ρ, S, rs, re, f.imp fun J H1 ⟨ι1, ρ1, src, S1, rs1, re1, wk, f1⟩ => ?_⟩
  refine ⟨fun i m σ' H' => ∃ ι' ρ' S', Ext ι1 H1 ι' H' ∧ RS X.K X.mg ι' S' H' ∧ RE X.K ι' H' ρ' σ' ∧ i + m = src.items.length ∧ FinS X.K X.mg W ι' H' (forL t mb src (src.items.drop i) ρ' S') Dn, ⟨src.items.length, ι1, ρ1, S1, Ext.refl _ _, rs1, re1, Nat.zero_add _, f1⟩, ?_⟩
  rintro i m σ2 H2 ⟨ι2, ρ2, S2, x2, rs2, re2, hm, f2⟩
  by_cases hi : i < src.items.length
  · have hd : src.items.drop i = src.items[i] :: src.items.drop (i + 1) := List.drop_eq_getElem_cons hi
    rw [hd] at f2
    unfold forL at f2
    split at f2
    · rename_i hok
      obtain ⟨_, hgo⟩ := wk ι2 S2 H2 x2.mo rs2 hok i
      obtain ⟨go, hy⟩ := hgo _ (List.getElem?_eq_getElem hi)
      refine .inr ⟨go, fun σ' H' => ∃ ι' ρ' S', Ext ι1 H1 ι' H' ∧ RS X.K X.mg ι' S' H' ∧ RE X.K ι' H' ρ' σ' ∧ FinS X.K X.mg W ι' H' (forL t mb src (src.items.drop (i + 1)) ρ' S') Dn, fun σ' H' hN => ?_, fun v H3 hyl => ?_⟩
      · obtain ⟨ι', ρ', S', a1, a2, a3, a4⟩ := hN
        exact ⟨m - 1, by omega, ι', ρ', S', a1, a2, a3, by omega, a4⟩
      · obtain ⟨x3, rs3, rd3⟩ := hy v H3 hyl
        cases ha : asg t src.items[i] ρ2 with
        | none => rw [ha] at f2; exact f2.elim
        | some ρ3 =>
          rw [ha] at f2
          refine ⟨ι2, ρ2, S2, _, ρ3, rs3, re2.mono x3, rd3, ha, fun σ3 re3 _ => ⟨ι2, ρ3, S2, rs3, re3, ?_⟩⟩
          have f3 := FinS.weak x3 f2
          cases hb2 : mb ρ3 S2 with
          | next ρ4 S4 =>
            simp only [hb2] at f3
            exact fun ι' H' σ' y rs' re' => ⟨ι', ρ4, S4, (x2.trans x3).trans y, rs', re', FinS.weak y f3⟩
          | cont ρ4 S4 =>
            simp only [hb2] at f3
            exact fun ι' H' σ' y rs' re' => ⟨ι', ρ4, S4, (x2.trans x3).trans y, rs', re', FinS.weak y f3⟩
          | brk ρ4 S4 => simp only [hb2] at f3; exact f3
          | ret d S4 => simp only [hb2] at f3; exact f3
          | exc c d ρ4 S4 => simp only [hb2] at f3; exact f3
          | no => simp only [hb2] at f3; exact f3.elim
    · exact f2.elim
  · have hd : src.items.drop i = [] := List.drop_eq_nil_of_le (by omega)
    rw [hd] at f2
    unfold forL at f2
    split at f2
    · rename_i hok
      obtain ⟨hstop, _⟩ := wk ι2 S2 H2 x2.mo rs2 hok i
      exact .inl ⟨hstop (by omega), f2 ι2 H2 σ2 (Ext.refl _ _) rs2 re2⟩
    · exact f2.elim
/-- a while of at most n turns -/
def whL (c : M Bool) (body : MS) : Nat → Sl → Store → SR
  | 0, _, _ => .no
  | n + 1, ρ, S => SR.bindR (c ρ S) ρ fun b S1 => if b = true then match body ρ S1 with
      | .next ρ2 S2 => whL c body n ρ2 S2
      | .cont ρ2 S2 => whL c body n ρ2 S2
      | .brk ρ2 S2 => .next ρ2 S2
      | r => r
    else .next ρ S1
theorem js_while {X : Cx} {W : WX} {c : Expr} {body : List Stmt} {mc : M Bool} {mb : MS} {pos : Pos} (n : Nat) (hp : PassesOwn (model X.prog X.w) X.A X.env X.xe) (hc : JT X W c mc) (hb : JSs X W body mb) : JS X W (.While c body [] pos) (whL mc mb n) :=
  (ps_while hp hc hb).imp fun Dn σ H h => by
    obtain ⟨ι, ρ, S, rs, re, f⟩ := h
    refine ⟨fun m σ' H' => ∃ ι' ρ' S', RS X.K X.mg ι' S' H' ∧ RE X.K ι' H' ρ' σ' ∧ FinS X.K X.mg W ι' H' (whL mc mb m ρ' S') Dn, ⟨n, ι, ρ, S, rs, re, f⟩, ?_⟩
    rintro m σ2 H2 ⟨ι2, ρ2, S2, rs2, re2, f2⟩
    cases m with
    | zero => exact f2.elim
    | succ m =>
      unfold whL at f2
      refine ⟨ι2, ρ2, S2, rs2, re2, FinG.imp (FinS.bindR (R := fun _ _ b c => b = c) re2 f2) fun b H3 ⟨b', S3, ι3, x3, rs3, eb, f3⟩ => ?_⟩
      subst eb
      cases b' with
      | false => exact f3 ι3 H3 σ2 (Ext.refl _ _) rs3 (re2.mono x3)
      | true =>
        simp only [if_true] at f3 ⊢
        refine ⟨fun σ' H' => ∃ ι' ρ' S', RS X.K X.mg ι' S' H' ∧ RE X.K ι' H' ρ' σ' ∧ FinS X.K X.mg W ι' H' (whL mc mb m ρ' S') Dn, fun σ' H' hN => ⟨m, Nat.lt_succ_self m, hN⟩, ι3, ρ2, S3, rs3, re2.mono x3, ?_⟩
        cases hb2 : mb ρ2 S3 with
        | next ρ4 S4 =>
          simp only [hb2] at f3
          exact fun ι' H' σ' y rs' re' => ⟨ι', ρ4, S4, rs', re', FinS.weak y f3⟩
        | cont ρ4 S4 =>
          simp only [hb2] at f3
          exact fun ι' H' σ' y rs' re' => ⟨ι', ρ4, S4, rs', re', FinS.weak y f3⟩
        | brk ρ4 S4 => simp only [hb2] at f3; exact f3
        | ret d S4 => simp only [hb2] at f3; exact f3
        | exc c d ρ4 S4 => simp only [hb2] at f3; exact f3
        | no => simp only [hb2] at f3; exact f3.elim
end MI

set_option Elab.async false
set_option linter.all false
set_option maxRecDepth 100000
namespace MI
open PySem PySem.Spec PyProof.Rows L2

/-! ### calls of built-in functions and types -/
section
variable {X : Cx} {W : WX} {x : Str} {p pos : Pos} {e : Expr} {es : List Expr} {me : M D} {mes : M (List D)} {id T : String} {g : List D → Store → Res D}
theorem tCB_fin {K : PySem.W.Frag} {mg : Str → Option Value} {W : WX} {σ : L2.St} {H : Hp} {Q : VK} {mes : M (List D)} (hc : CalmN g) (h : tE K mg W (mApp g mes) σ H Q) : tCB (rN K mg g) (tA K mg W mes) σ H Q := by
  obtain ⟨ι, ρ, S, rs, re, f⟩ := tG_seq (R := fun ι H d v => RDs K ι H d v) (m := mes) (k := fun _ => g) h
  exact ⟨ι, ρ, S, rs, re, f.imp fun x H1 ⟨ι1, ρ1, ds, S1, rs1, re1, rd1, f1⟩ => ⟨ι1, S1, ds, rs1, rd1, f1.calm (hc _ _)⟩⟩
theorem j_callB (hc : CallR X (.builtin id) (rN X.K X.mg g)) (hcalm : CalmN g) (hm : X.mg x = none) (hv : bootBuiltins x = some (.builtin id)) (ha : JA X W (e :: es) mes) (hg : Gl X x := by rfl) (hn : x ≠ "__name__" := by decide) (hdb : (x == ("__debug__" : Str)) = false := by decide)
    (he : starEach (e :: es) X.env = (false, eval e X.env) :: starEach es X.env := by rfl) (hpl : (backTo pos (starEach es X.env)).any (·.1) = false := by rfl) : JE X W (.Call (.Name x p) (e :: es) [] pos) (mApp g mes) :=
  (pe_callB hc hg hm hv ha hn hdb he hpl).imp fun σ H Q h => tCB_fin hcalm h
theorem j_callTy (hc : CallR X (.type T) (rN X.K X.mg g)) (hcalm : CalmN g) (hm : X.mg x = none) (hv : bootBuiltins x = some (.type T)) (ha : JA X W (e :: es) mes) (hg : Gl X x := by rfl) (hn : x ≠ "__name__" := by decide) (hdb : (x == ("__debug__" : Str)) = false := by decide)
    (he : starEach (e :: es) X.env = (false, eval e X.env) :: starEach es X.env := by rfl) (hpl : (backTo pos (starEach es X.env)).any (·.1) = false := by rfl) : JE X W (.Call (.Name x p) (e :: es) [] pos) (mApp g mes) :=
  (pe_callTy hc hg hm hv ha hn hdb he hpl).imp fun σ H Q h => tCB_fin hcalm h
theorem j_callF (hc : CallR X (.builtin id) (rN X.K X.mg g)) (hcalm : CalmN g) (hm : X.mg x = some (.builtin id)) (ha : JA X W (e :: es) mes) (hg : Gl X x := by rfl) (hdb : (x == ("__debug__" : Str)) = false := by decide)
    (he : starEach (e :: es) X.env = (false, eval e X.env) :: starEach es X.env := by rfl) (hpl : (backTo pos (starEach es X.env)).any (·.1) = false := by rfl) : JE X W (.Call (.Name x p) (e :: es) [] pos) (mApp g mes) :=
  (pe_callBfun hc hg hm ha hdb he hpl).imp fun σ H Q h => tCB_fin hcalm h
end
/-! whole numbers -/
def gAbs (xs : List D) (S : Store) : Res D := match xs with
  | [.int i] => .ok (.int (if i < 0 then -i else i)) S
  | _ => .no
def gMax2 (xs : List D) (S : Store) : Res D := match xs with
  | [.int i, .int j] => .ok (.int (if j > i then j else i)) S
  | _ => .no
def gMin2 (xs : List D) (S : Store) : Res D := match xs with
  | [.int i, .int j] => .ok (.int (if j < i then j else i)) S
  | _ => .no
def gInt (xs : List D) (S : Store) : Res D := match xs with
  | [.int i] => .ok (.int i) S
  | [.bl b] => .ok (.int (if b then 1 else 0)) S
  | _ => .no
def gGcd (xs : List D) (S : Store) : Res D := match xs with
  | [.int a, .int b] => .ok (.int ((Nat.gcd a.natAbs b.natAbs : Nat) : Int)) S
  | _ => .no
def calmB {α : Type} (r : Res α) : Prop := ∀ c v S, r ≠ .exc c v S
theorem calm_abs : CalmN gAbs := fun ds S c v S' h => by unfold gAbs at h; split at h <;> cases h
theorem calm_max2 : CalmN gMax2 := fun ds S c v S' h => by unfold gMax2 at h; split at h <;> cases h
theorem calm_min2 : CalmN gMin2 := fun ds S c v S' h => by unfold gMin2 at h; split at h <;> cases h
theorem calm_int : CalmN gInt := fun ds S c v S' h => by unfold gInt at h; split at h <;> cases h
theorem calm_gcd : CalmN gGcd := fun ds S c v S' h => by unfold gGcd at h; split at h <;> cases h
theorem RDs.one_inv {K : PySem.W.Frag} {ι : List Addr} {H : Hp} {d : D} {vs : List V} (h : RDs K ι H [d] vs) : ∃ v, vs = [v] ∧ RD K ι H d v := by
  obtain ⟨v, us, rfl, r1, r2⟩ := h.cons_inv
  exact ⟨v, by rw [r2.nil_inv], r1⟩
theorem RDs.two_inv {K : PySem.W.Frag} {ι : List Addr} {H : Hp} {d e : D} {vs : List V} (h : RDs K ι H [d, e] vs) : ∃ v u, vs = [v, u] ∧ RD K ι H d v ∧ RD K ι H e u := by
  obtain ⟨v, us, rfl, r1, r2⟩ := h.cons_inv
  obtain ⟨u, rfl, r3⟩ := r2.one_inv
  exact ⟨v, u, rfl, r1, r3⟩
section
variable {X : Cx}
theorem c_abs : CallR X (.builtin "abs") (rN X.K X.mg gAbs) := by
  intro pins s σ H xs us Q I r h
  obtain ⟨ι, S, ds, rs, rd, f⟩ := h
  unfold gAbs at f
  split at f
  · rename_i i
    obtain ⟨v, rfl, r1⟩ := rd.one_inv
    rw [r1.int_inv] at r
    exact call_abs pins s σ H _ us Q I r ⟨i, rfl, f ι H _ (Ext.refl _ _) rs (.int _)⟩
  · exact f.elim
theorem c_max2 (hc : X.calm = true) : CallR X (.builtin "max") (rN X.K X.mg gMax2) := by
  intro pins s σ H xs us Q I r h
  obtain ⟨ι, S, ds, rs, rd, f⟩ := h
  unfold gMax2 at f
  split at f
  · rename_i i j
    obtain ⟨v, u, rfl, r1, r2⟩ := rd.two_inv
    rw [r1.int_inv, r2.int_inv] at r
    exact call_max2 hc pins s σ H _ us Q I r ⟨i, j, rfl, f ι H _ (Ext.refl _ _) rs (.int _)⟩
  · exact f.elim
theorem c_min2 (hc : X.calm = true) : CallR X (.builtin "min") (rN X.K X.mg gMin2) := by
  intro pins s σ H xs us Q I r h
  obtain ⟨ι, S, ds, rs, rd, f⟩ := h
  unfold gMin2 at f
  split at f
  · rename_i i j
    obtain ⟨v, u, rfl, r1, r2⟩ := rd.two_inv
    rw [r1.int_inv, r2.int_inv] at r
    exact call_min2 hc pins s σ H _ us Q I r ⟨i, j, rfl, f ι H _ (Ext.refl _ _) rs (.int _)⟩
  · exact f.elim
theorem c_int : CallR X (.type "int") (rN X.K X.mg gInt) := by
  intro pins s σ H xs us Q I r h
  obtain ⟨ι, S, ds, rs, rd, f⟩ := h
  unfold gInt at f
  split at f
  · rename_i i
    obtain ⟨v, rfl, r1⟩ := rd.one_inv
    rw [r1.int_inv] at r
    exact call_int1 pins s σ H _ us Q I r (.inl ⟨i, rfl, f ι H _ (Ext.refl _ _) rs (.int _)⟩)
  · rename_i b
    obtain ⟨v, rfl, r1⟩ := rd.one_inv
    rw [r1.bl_inv] at r
    exact call_int1 pins s σ H _ us Q I r (.inr ⟨b, rfl, f ι H _ (Ext.refl _ _) rs (.int _)⟩)
  · exact f.elim
theorem c_gcd : CallR X (.builtin "math.gcd") (rN X.K X.mg gGcd) := by
  intro pins s σ H xs us Q I r h
  obtain ⟨ι, S, ds, rs, rd, f⟩ := h
  unfold gGcd at f
  split at f
  · rename_i i j
    obtain ⟨v, u, rfl, r1, r2⟩ := rd.two_inv
    rw [r1.int_inv, r2.int_inv] at r
    exact cr_gcd pins s σ H _ us Q I r ⟨i, j, rfl, f ι H _ (Ext.refl _ _) rs (.int _)⟩
  · exact f.elim
end

/-! ### sequences -/
/-- the items of a list or a tuple -/
def seqOf (d : D) (S : Store) : Option (List D) := match d with
  | .tup xs => some xs
  | .fro xs => some xs
  | .ref i => match S[i]? with
    | some (.lst xs) => some xs
    | _ => none
  | _ => none
theorem seqOf_v {K : PySem.W.Frag} {mg : Str → Option Value} {ι : List Addr} {S : Store} {H : Hp} {d : D} {v : V} {xs : List D} (rs : RS K mg ι S H) (rd : RD K ι H d v) (h : seqOf d S = some xs) : ∃ a vs, v = .ref a ∧ RDs K ι H xs vs ∧ (SqL K H a vs ∨ (SqT K H a vs ∧ d = .tup xs)) := by
  cases d with
  | tup ys =>
    simp only [seqOf, Option.some.injEq] at h
    subst h
    obtain ⟨a, vs, rfl, ha, r⟩ := rd.tup_inv
    exact ⟨a, vs, rfl, r, .inr ⟨ha, rfl⟩⟩
  | fro ys =>
    simp only [seqOf, Option.some.injEq] at h
    subst h
    obtain ⟨a, vs, rfl, ha, r⟩ := rd.fro_inv
    exact ⟨a, vs, rfl, r, .inl ha.sql⟩
  | ref i =>
    simp only [seqOf] at h
    split at h
    · rename_i ys hy
      cases h
      obtain ⟨a, rfl, ha⟩ := rd.ref_inv
      obtain ⟨vs, e1, r⟩ := rs.get' hy ha
      exact ⟨a, vs, rfl, r, .inl (SqL.of e1)⟩
    · cases h
  | _ => simp [seqOf] at h
def gLen (xs : List D) (S : Store) : Res D := match xs with
  | [.str y] => if y.length ≤ 16777216 then .ok (.int y.length) S else .no
  | [d] => match seqOf d S with
    | some ds => .ok (.int ds.length) S
    | none => .no
  | _ => .no
theorem calm_len : CalmN gLen := fun ds S c v S' h => by
  unfold gLen at h
  split at h
  · split at h <;> cases h
  · split at h <;> cases h
  · cases h
def gList (xs : List D) (S : Store) : Res D := match xs with
  | [d] => match seqOf d S with
    | some ds => .ok (.ref S.length) (S ++ [.lst ds])
    | none => .no
  | _ => .no
theorem calm_list : CalmN gList := fun ds S c v S' h => by
  unfold gList at h
  split at h
  · split at h <;> cases h
  · cases h
def gTuple (xs : List D) (S : Store) : Res D := match xs with
  | [d] => match seqOf d S with
    | some ds => .ok (.tup ds) S
    | none => .no
  | _ => .no
theorem calm_tuple : CalmN gTuple := fun ds S c v S' h => by
  unfold gTuple at h
  split at h
  · split at h <;> cases h
  · cases h
section
variable {X : Cx}
theorem c_len : CallR X (.builtin "len") (rN X.K X.mg gLen) := by
  intro pins s σ H xs us Q I r h
  obtain ⟨ι, S, ds, rs, rd, f⟩ := h
  unfold gLen at f
  split at f
  · rename_i y
    obtain ⟨v, rfl, r1⟩ := rd.one_inv
    rw [r1.str_inv] at r
    split at f
    · rename_i hz
      exact call_len_str pins s σ H _ us Q I r ⟨y, rfl, by rw [sizeLine_eq]; exact hz, f ι H _ (Ext.refl _ _) rs (.int _)⟩
    · exact f.elim
  · rename_i d _
    obtain ⟨v, rfl, r1⟩ := rd.one_inv
    split at f
    · rename_i ys hy
      obtain ⟨a, vs, rfl, rr, hs⟩ := seqOf_v rs r1 hy
      rw [rr.length] at f
      exact call_len_seq pins s σ H _ us Q I r ⟨a, vs, rfl, hs.imp (fun z => z) (fun z => z.1), f ι H _ (Ext.refl _ _) rs (.int _)⟩
    · exact f.elim
  · exact f.elim
theorem c_list : CallR X (.type "list") (rN X.K X.mg gList) := by
  intro pins s σ H xs us Q I r h
  obtain ⟨ι, S, ds, rs, rd, f⟩ := h
  unfold gList at f
  split at f
  · rename_i d
    obtain ⟨v, rfl, r1⟩ := rd.one_inv
    split at f
    · rename_i ys hy
      obtain ⟨a, vs, rfl, rr, hs⟩ := seqOf_v rs r1 hy
      exact call_list_of pins s σ H _ us Q I r ⟨a, vs, rfl, hs.imp (fun z => z) (fun z => z.1), fun l hl => fin_lst rs rr f hl⟩
    · exact f.elim
  · exact f.elim
theorem c_tuple : CallR X (.type "tuple") (rN X.K X.mg gTuple) := by
  intro pins s σ H xs us Q I r h
  obtain ⟨ι, S, ds, rs, rd, f⟩ := h
  unfold gTuple at f
  split at f
  · rename_i d
    obtain ⟨v, rfl, r1⟩ := rd.one_inv
    split at f
    · rename_i ys hy
      obtain ⟨a, vs, rfl, rr, hs⟩ := seqOf_v rs r1 hy
      refine call_tuple_of pins s σ H _ us Q I r ⟨a, vs, rfl, ?_⟩
      rcases hs with hs | ⟨hs, rfl⟩
      · exact .inl ⟨hs, fun l hl => fin_tup rs rr f hl⟩
      · exact .inr ⟨hs, f ι H _ (Ext.refl _ _) rs r1⟩
    · exact f.elim
  · exact f.elim
/-- what a function of a list's items does, called with the list -/
def rSq (K : PySem.W.Frag) (mg : Str → Option Value) (g : List D → Store → Res D) : List V → Hp → VK → Prop := fun xs H Q => ∃ ι S ds p ys, xs = [.ref p] ∧ SqL K H p ys ∧ RS K mg ι S H ∧ RDs K ι H ds ys ∧ FinG K mg noW (fun ι H d v => RD K ι H d v) [] ι H (g ds S) Q
def gSq (g : List D → Store → Res D) (xs : List D) (S : Store) : Res D := match xs with
  | [d] => match d with
    | .tup _ => .no
    | d => match seqOf d S with
      | some ds => g ds S
      | none => .no
  | _ => .no
theorem calm_sq {g : List D → Store → Res D} (h : CalmN g) : CalmN (gSq g) := fun ds S c v S' e => by
  unfold gSq at e
  split at e
  · split at e
    · cases e
    · split at e
      · exact h _ _ _ _ _ e
      · cases e
  · cases e
theorem c_sq {f : Value} {g : List D → Store → Res D} (h : CallR X f (rSq X.K X.mg g)) : CallR X f (rN X.K X.mg (gSq g)) := by
  intro pins s σ H xs us Q I r q
  obtain ⟨ι, S, ds, rs, rd, f⟩ := q
  unfold gSq at f
  split at f
  · rename_i d
    obtain ⟨v, rfl, r1⟩ := rd.one_inv
    split at f
    · exact f.elim
    · rename_i d ne
      split at f
      · rename_i ys hy
        obtain ⟨a, vs, rfl, rr, hs⟩ := seqOf_v rs r1 hy
        rcases hs with hs | ⟨_, e⟩
        · exact h pins s σ H _ us Q I r ⟨ι, S, ys, a, vs, rfl, hs, rs, rr, f⟩
        · exact absurd e (ne ys)
      · exact f.elim
  · exact f.elim
def boolsOf : List D → Option (List Bool)
  | [] => some []
  | .bl b :: r => (boolsOf r).map (b :: ·)
  | _ => none
def intsOf : List D → Option (List Int)
  | [] => some []
  | .int b :: r => (intsOf r).map (b :: ·)
  | _ => none
theorem boolsOf_v {K : PySem.W.Frag} {ι : List Addr} {H : Hp} : ∀ {ds : List D} {vs : List V} {bs : List Bool}, RDs K ι H ds vs → boolsOf ds = some bs → vs = bs.map V.bl
  | [], vs, bs, r, h => by
    simp only [boolsOf, Option.some.injEq] at h
    subst h
    exact r.nil_inv
  | d :: ds, vs, bs, r, h => by
    obtain ⟨v, us, rfl, r1, r2⟩ := r.cons_inv
    cases d with
    | bl b =>
      simp only [boolsOf, Option.map_eq_some_iff] at h
      obtain ⟨bs', h1, rfl⟩ := h
      rw [r1.bl_inv, boolsOf_v r2 h1]
      rfl
    | _ => simp [boolsOf] at h
theorem intsOf_v {K : PySem.W.Frag} {ι : List Addr} {H : Hp} : ∀ {ds : List D} {vs : List V} {bs : List Int}, RDs K ι H ds vs → intsOf ds = some bs → vs = bs.map V.int
  | [], vs, bs, r, h => by
    simp only [intsOf, Option.some.injEq] at h
    subst h
    exact r.nil_inv
  | d :: ds, vs, bs, r, h => by
    obtain ⟨v, us, rfl, r1, r2⟩ := r.cons_inv
    cases d with
    | int b =>
      simp only [intsOf, Option.map_eq_some_iff] at h
      obtain ⟨bs', h1, rfl⟩ := h
      rw [r1.int_inv, intsOf_v r2 h1]
      rfl
    | _ => simp [intsOf] at h
def gAll (xs : List D) (S : Store) : Res D := match boolsOf xs with
  | some bs => .ok (.bl (bs.all id)) S
  | none => .no
def gAny (xs : List D) (S : Store) : Res D := match boolsOf xs with
  | some bs => .ok (.bl (bs.any id)) S
  | none => .no
def gSum (xs : List D) (S : Store) : Res D := match intsOf xs with
  | some ns => .ok (.int ns.sum) S
  | none => .no
theorem calm_all : CalmN gAll := fun ds S c v S' h => by unfold gAll at h; split at h <;> cases h
theorem calm_any : CalmN gAny := fun ds S c v S' h => by unfold gAny at h; split at h <;> cases h
theorem calm_sum : CalmN gSum := fun ds S c v S' h => by unfold gSum at h; split at h <;> cases h
theorem c_all (hc : X.calm = true) : CallR X (.builtin "all") (rSq X.K X.mg gAll) := by
  intro pins s σ H xs us Q I r ⟨ι, S, ds, p, ys, e, hs, rs, rd, f⟩
  unfold gAll at f
  split at f
  · rename_i bs hb
    have ev := boolsOf_v rd hb
    subst ev
    exact cr_all hc pins s σ H xs us Q I r ⟨p, bs, e, hs, f ι H _ (Ext.refl _ _) rs (.bl _)⟩
  · exact f.elim
theorem c_any (hc : X.calm = true) : CallR X (.builtin "any") (rSq X.K X.mg gAny) := by
  intro pins s σ H xs us Q I r ⟨ι, S, ds, p, ys, e, hs, rs, rd, f⟩
  unfold gAny at f
  split at f
  · rename_i bs hb
    have ev := boolsOf_v rd hb
    subst ev
    exact cr_any hc pins s σ H xs us Q I r ⟨p, bs, e, hs, f ι H _ (Ext.refl _ _) rs (.bl _)⟩
  · exact f.elim
theorem c_sum (hc : X.calm = true) : CallR X (.builtin "sum") (rSq X.K X.mg gSum) := by
  intro pins s σ H xs us Q I r ⟨ι, S, ds, p, ys, e, hs, rs, rd, f⟩
  unfold gSum at f
  split at f
  · rename_i bs hb
    have ev := intsOf_v rd hb
    subst ev
    exact cr_sum hc pins s σ H xs us Q I r ⟨p, bs, e, hs, f ι H _ (Ext.refl _ _) rs (.int _)⟩
  · exact f.elim
def gTupL (xs : List D) (S : Store) : Res D := .ok (.tup xs) S
def gListL (xs : List D) (S : Store) : Res D := .ok (.ref S.length) (S ++ [.lst xs])
def gLenL (xs : List D) (S : Store) : Res D := .ok (.int xs.length) S
theorem calm_tupL : CalmN gTupL := fun ds S c v S' h => nomatch h
theorem calm_listL : CalmN gListL := fun ds S c v S' h => nomatch h
theorem calm_lenL : CalmN gLenL := fun ds S c v S' h => nomatch h
theorem c_tupL : CallR X (.type "tuple") (rSq X.K X.mg gTupL) := by
  intro pins s σ H xs us Q I r ⟨ι, S, ds, p, ys, e, hs, rs, rd, f⟩
  exact call_tuple_of pins s σ H xs us Q I r ⟨p, ys, e, .inl ⟨hs, fun l hl => fin_tup rs rd f hl⟩⟩
theorem c_listL : CallR X (.type "list") (rSq X.K X.mg gListL) := by
  intro pins s σ H xs us Q I r ⟨ι, S, ds, p, ys, e, hs, rs, rd, f⟩
  exact call_list_of pins s σ H xs us Q I r ⟨p, ys, e, .inl hs, fun l hl => fin_lst rs rd f hl⟩
theorem c_lenL : CallR X (.builtin "len") (rSq X.K X.mg gLenL) := by
  intro pins s σ H xs us Q I r ⟨ι, S, ds, p, ys, e, hs, rs, rd, f⟩
  unfold gLenL at f
  rw [rd.length] at f
  exact call_len_seq pins s σ H xs us Q I r ⟨p, ys, e, .inl hs, f ι H _ (Ext.refl _ _) rs (.int _)⟩
end

/-! ### lists just made, not in the store -/
mutual
theorem RD.more {K : PySem.W.Frag} {ι : List Addr} {H : Hp} (t : List Addr) : ∀ {d : D} {v : V}, RD K ι H d v → RD K (ι ++ t) H d v
  | _, _, .non => .non
  | _, _, .bl b => .bl b
  | _, _, .int i => .int i
  | _, _, .str z => .str z
  | _, _, .tup h r => .tup h (RDs.more t r)
  | _, _, .ref h => .ref (by rw [List.getElem?_append_left (List.getElem?_eq_some_iff.mp h).1]; exact h)
  | _, _, .fro h r => .fro h (RDs.more t r)
theorem RDs.more {K : PySem.W.Frag} {ι : List Addr} {H : Hp} (t : List Addr) : ∀ {ds : List D} {vs : List V}, RDs K ι H ds vs → RDs K (ι ++ t) H ds vs
  | _, _, .nil => .nil
  | _, _, .cons h r => .cons (RD.more t h) (RDs.more t r)
end
theorem CellOk.more {K : PySem.W.Frag} {mg : Str → Option Value} {ι : List Addr} {H : Hp} {a : Addr} {c : Cell} (t : List Addr) (h : CellOk K mg ι H a c) : CellOk K mg (ι ++ t) H a c := by
  cases c with
  | lst xs => obtain ⟨vs, e, r⟩ := h; exact ⟨vs, e, r.more t⟩
  | dct kvs => obtain ⟨ws, e, r⟩ := h; exact ⟨ws, e, Paired.mapP r fun _ _ h => ⟨h.1, h.2.more t⟩⟩
  | exc c v => obtain ⟨C, dd, fs, u, e1, e2, e3, e4, r⟩ := h; exact ⟨C, dd, fs, u, e1, e2, e3, e4, r.more t⟩
theorem Ext.adopt {ι ι' : List Addr} {H H' : Hp} {a : Addr} (x : Ext ι H ι' H') (h : H a = none) : Ext ι H (ι' ++ [a]) H' := by
  obtain ⟨⟨t, e⟩, a0, ak, a1, a2⟩ := x
  refine ⟨⟨t ++ [a], by rw [e, List.append_assoc]⟩, fun b hb => ?_, ak, a1, a2⟩
  rcases List.mem_append.mp hb with z | z
  · exact a0 b z
  · have e : b = a := by simpa using z
    rw [e]; exact .inr h
theorem RS.adopt {K : PySem.W.Frag} {mg : Str → Option Value} {ι : List Addr} {S : Store} {H : Hp} {p : Addr} {c : Cell} (r : RS K mg ι S H) (h : p ∉ ι) (hc : CellOk K mg (ι ++ [p]) H p c) : RS K mg (ι ++ [p]) (S ++ [c]) H := by
  refine ⟨by simp [r.len], ?_, fun i c' a e1 e2 => ?_⟩
  · rw [List.nodup_append]
    refine ⟨r.nd, by simp, fun a ha b hb => ?_⟩
    have : b = p := by simpa using hb
    subst this
    exact fun e => h (e ▸ ha)
  · by_cases hi : i < S.length
    · rw [List.getElem?_append_left hi] at e1
      rw [List.getElem?_append_left (by rw [← r.len]; exact hi)] at e2
      exact (r.at_ i c' a e1 e2).more _
    · have e : i = S.length := by
        have h1 := (List.getElem?_eq_some_iff.mp e1).1
        rw [List.length_append, List.length_singleton] at h1
        omega
      subst e
      rw [List.getElem?_append_right (Nat.le_refl _), Nat.sub_self] at e1
      rw [List.getElem?_append_right (by rw [r.len]; exact Nat.le_refl _), r.len, Nat.sub_self] at e2
      simp at e1 e2
      subst e1; subst e2
      exact hc
/-- H0: the heap ahead of the making -/
def RLf (K : PySem.W.Frag) (H0 : Hp) (ι : List Addr) (H : Hp) (ds : List D) (v : V) : Prop := ∃ a vs, v = .ref a ∧ H0 a = none ∧ a ∉ ι ∧ H a = some (.lst vs) ∧ RDs K ι H ds vs
def tL (K : PySem.W.Frag) (mg : Str → Option Value) (W : WX) (m : M (List D)) : TE := fun σ H Q => ∃ ι ρ S, RS K mg ι S H ∧ RE K ι H ρ σ ∧ FinG K mg W (fun ι' H' ds v => RLf K H ι' H' ds v) σ ι H (m ρ S) Q
abbrev JL (X : Cx) (W : WX) (e : Expr) (m : M (List D)) : Prop := PE X e (tL X.K X.mg W m)
def mBox (m : M (List D)) : M D := fun ρ S => (m ρ S).bind fun ds S1 => .ok (.ref S1.length) (S1 ++ [.lst ds])
def mL (g : List D → Store → Res D) (m : M (List D)) : M D := fun ρ S => (m ρ S).bind g
section
variable {X : Cx} {W : WX} {x : Str} {p pos : Pos} {e : Expr} {es : List Expr} {m : M (List D)} {id T : String} {g : List D → Store → Res D}
theorem box_fin {K : PySem.W.Frag} {mg : Str → Option Value} {W : WX} {σ : L2.St} {H : Hp} {Q : VK} {m : M (List D)} (h : tE K mg W (mBox m) σ H Q) : tL K mg W m σ H Q := by
  obtain ⟨ι, ρ, S, rs, re, f⟩ := h
  refine ⟨ι, ρ, S, rs, re, ?_⟩
  unfold mBox at f
  cases hm : m ρ S with
  | ok ds S1 =>
    rw [hm] at f
    intro ι' H' v x rs' rl
    obtain ⟨a, vs, rfl, h0, na, ha, r⟩ := rl
    exact f (ι' ++ [a]) H' _ (x.adopt h0) (rs'.adopt na ⟨vs, ha, r.more _⟩) (.ref (by rw [rs'.len, List.getElem?_append_right (Nat.le_refl _), Nat.sub_self]; rfl))
  | exc c v S1 => rw [hm] at f; exact f
  | no => rw [hm] at f; exact f
theorem j_box (h : JL X W e m) : JE X W e (mBox m) := h.imp fun σ H Q h => box_fin h
theorem fin_sq {K : PySem.W.Frag} {mg : Str → Option Value} {W : WX} {σ : L2.St} {H : Hp} {Q : VK} {m : M (List D)} (hc : CalmN g) (h : tE K mg W (mL g m) σ H Q) :
    tCB (rSq K mg g) (tCons (tL K mg W m) tNil) σ H Q := by
  obtain ⟨ι, ρ, S, rs, re, f⟩ := h
  unfold mL at f
  refine ⟨ι, ρ, S, rs, re, FinG.imp f.bind fun v H1 ⟨ds, S1, ι1, x1, rs1, rl, f1⟩ => ?_⟩
  obtain ⟨a, vs, rfl, h0, na, ha, r⟩ := rl
  exact ⟨ι1, S1, ds, a, vs, rfl, SqL.of ha, rs1, r, f1.calm (hc _ _)⟩
/-- f([..]), f a built-in function -/
theorem j_callBL (hc : CallR X (.builtin id) (rSq X.K X.mg g)) (hcalm : CalmN g) (hm : X.mg x = none) (hv : bootBuiltins x = some (.builtin id)) (ha : JL X W e m) (hg : Gl X x := by rfl) (hn : x ≠ "__name__" := by decide) (hdb : (x == ("__debug__" : Str)) = false := by decide)
    (he : starEach (e :: []) X.env = (false, eval e X.env) :: starEach [] X.env := by rfl) (hpl : (backTo pos (starEach [] X.env)).any (·.1) = false := by rfl) : JE X W (.Call (.Name x p) [e] [] pos) (mL g m) :=
  (pe_callB hc hg hm hv (pa_cons ha pa_nil he) hn hdb he hpl).imp fun σ H Q h => fin_sq hcalm h
theorem j_callTyL (hc : CallR X (.type T) (rSq X.K X.mg g)) (hcalm : CalmN g) (hm : X.mg x = none) (hv : bootBuiltins x = some (.type T)) (ha : JL X W e m) (hg : Gl X x := by rfl) (hn : x ≠ "__name__" := by decide) (hdb : (x == ("__debug__" : Str)) = false := by decide)
    (he : starEach (e :: []) X.env = (false, eval e X.env) :: starEach [] X.env := by rfl) (hpl : (backTo pos (starEach [] X.env)).any (·.1) = false := by rfl) : JE X W (.Call (.Name x p) [e] [] pos) (mL g m) :=
  (pe_callTy hc hg hm hv (pa_cons ha pa_nil he) hn hdb he hpl).imp fun σ H Q h => fin_sq hcalm h

/-! ### list comprehensions -/
def wipeS (ρ : Sl) : List Nat → Sl
  | [] => ρ
  | v :: vs => (wipeS ρ vs).set v none
theorem RE.wipe {K : PySem.W.Frag} {ι : List Addr} {H : Hp} {ρ : Sl} {σ : L2.St} (r : RE K ι H ρ σ) : ∀ vs : List Nat, RE K ι H (wipeS ρ vs) (L2.wipe σ vs)
  | [] => r
  | v :: vs => (RE.wipe r vs).clear v
/-- what must raise nothing -/
def noX {α : Type} (r : Res α) : Res α := match r with
  | .exc _ _ _ => .no
  | r => r
def lcL (t : Tgt) (src : Src) (c : M Bool) (elt : M D) (ρ : Sl) : List D → Store → Res (List D)
  | [], S => if src.ok S = true then .ok [] S else .no
  | d :: ds, S => if src.ok S = true then match asg t d ρ with
      | none => .no
      | some ρ1 => (noX (c ρ1 S)).bind fun b S1 => if b = true then (noX (elt ρ1 S1)).bind fun x S2 => (lcL t src c elt ρ ds S2).bind fun xs S3 => .ok (x :: xs) S3
        else lcL t src c elt ρ ds S1
    else .no
def mLc (t : Tgt) (own : List Nat) (m : M Src) (c : M Bool) (elt : M D) : M (List D) := fun ρ S => (m ρ S).bind fun src S1 => if src.items.length < 16000000 then lcL t src c elt (wipeS ρ own) src.items S1 else .no
def mYes : M Bool := fun _ S => .ok true S
abbrev JC (X : Cx) (W : WX) (ifs : List Expr) (m : M Bool) : Prop := PTs X ifs (tT X.K X.mg W m)
theorem jc_nil : JC X W [] mYes := ⟨fun pins s σ H Q I ⟨ι, ρ, S, rs, re, f⟩ => pts_nil.run pins s σ H Q I (f ι H true (Ext.refl _ _) rs rfl)⟩
theorem jc_one {c : Expr} {m : M Bool} (h : JT X W c m) : JC X W [c] m := pts_one h
theorem wipe_wipe (σ : L2.St) (vs : List Nat) : L2.wipe (L2.wipe σ vs) vs = L2.wipe σ vs := offs_wipe ⟨by rw [wipe_length], fun j hj => by
  have key : ∀ ws : List Nat, j ∉ ws → (L2.wipe σ ws)[j]? = σ[j]? := by
    intro ws
    induction ws with
    | nil => intro _; rfl
    | cons w ws ih =>
      intro h
      simp only [List.mem_cons, not_or] at h
      unfold L2.wipe
      rw [List.getElem?_set_ne (Ne.symm h.1)]
      exact ih h.2
  exact key vs hj⟩
theorem fin_noX {K : PySem.W.Frag} {mg : Str → Option Value} {W W' : WX} {α β γ δ : Type} {R : List Addr → Hp → α → β → Prop} {R2 : List Addr → Hp → γ → δ → Prop} {σ σ' : L2.St} {ι ι0 : List Addr} {H H0 : Hp} {r : Res α} {k : α → Store → Res γ} {Q : δ → Hp → Prop}
    (h : FinG K mg W R2 σ ι0 H0 ((noX r).bind k) Q) : FinG K mg W' R σ' ι H r (fun x H1 => ∃ a S1 ι1, Ext ι H ι1 H1 ∧ RS K mg ι1 S1 H1 ∧ R ι1 H1 a x ∧ FinG K mg W R2 σ ι0 H0 (k a S1) Q) := by
  cases r with
  | ok a S => exact fun ι' H' v y rs rd => ⟨a, S, ι', y, rs, rd, h⟩
  | exc c d S => exact h.elim
  | no => exact h.elim
theorem Res.bind_assoc {α β γ : Type} (r : Res α) (f : α → Store → Res β) (g : β → Store → Res γ) : (r.bind f).bind g = r.bind fun a S => (f a S).bind g := by cases r <;> rfl
theorem Res.bind_pure {α : Type} (r : Res α) : (r.bind fun a S => .ok a S) = r := by cases r <;> rfl
theorem lc_fin {K : PySem.W.Frag} {mg : Str → Option Value} {W : WX} {σ : L2.St} {H : Hp} {Q : VK} {t : Tgt} {mi : M Src} {mc : M Bool} {me : M D} {own : List Nat} (hsub : ∀ j ∈ t.slots, j ∈ own) (h : tL K mg W (mLc t own mi mc me) σ H Q) :
    tLc (tI K mg W mi) (tTg K mg t) (tT K mg noW mc) (tE K mg noW me) own σ H Q := by
  obtain ⟨ι, ρ, S, rs, re, f⟩ := h
  unfold mLc at f
  refine ⟨ι, ρ, S, rs, re, ?_⟩
  cases hm : mi ρ S with
  | exc c v S1 => rw [hm] at f; exact f
  | no => rw [hm] at f; exact f
  | ok src S1 =>
    rw [hm] at f
    have f : FinG K mg W (fun ι' H' ds v => RLf K H ι' H' ds v) σ ι H (if src.items.length < 16000000 then lcL t src mc me (wipeS ρ own) src.items S1 else .no) Q := f
    split at f
    · rename_i hlen
      intro ι1 H1 J x1 rs1 wk L hL
      have reW := (re.mono x1).wipe own
      have hL0 : H L = none := by
        cases q : H L with
        | none => rfl
        | some o =>
          by_cases hi : L ∈ ι
          · obtain ⟨i, hi', e⟩ := List.getElem_of_mem hi
            have e1 : ι1[i]? = some L := x1.at (by rw [List.getElem?_eq_getElem hi', e])
            exact absurd (List.mem_of_getElem? e1) (rs1.fresh hL)
          · rw [x1.keep L o q hi] at hL; cases hL
      have nL : L ∉ ι1 := rs1.fresh hL
      refine ⟨fun i m H2 => i + m = src.items.length ∧ ∃ ι2 S2 acc vs, Ext ι H ι2 H2 ∧ Ext ι1 H1 ι2 H2 ∧ RS K mg ι2 S2 H2 ∧ L ∉ ι2 ∧ H2 L = some (.lst vs) ∧ RDs K ι2 H2 acc vs ∧ acc.length ≤ i ∧
        FinG K mg W (fun ι' H' ds v => RLf K H ι' H' ds v) σ ι H ((lcL t src mc me (wipeS ρ own) (src.items.drop i) S2).bind fun xs S3 => .ok (acc ++ xs) S3) Q, ?_, ?_⟩
      · refine ⟨src.items.length, by omega, ι1, S1, [], [], x1.side hL0, (Ext.refl ι1 H1).side hL, rs1.new0 hL, nL, upd_same, .nil, Nat.le_refl _, ?_⟩
        rw [List.drop_zero]
        simp only [List.nil_append]
        rw [Res.bind_pure]
        exact f
      · rintro i m H2 ⟨him, ι2, S2, acc, vs, x0, x2, rs2, n2, hL2, ra, hal, g⟩
        by_cases hi : i < src.items.length
        · rw [List.drop_eq_getElem_cons hi] at g
          unfold lcL at g
          split at g
          · rename_i hok
            obtain ⟨_, hgo⟩ := wk ι2 S2 H2 x2.mo rs2 hok i
            obtain ⟨go, hy⟩ := hgo _ (List.getElem?_eq_getElem hi)
            refine .inr ⟨go, fun H' => ∃ ι2 S2 acc vs, Ext ι H ι2 H' ∧ Ext ι1 H1 ι2 H' ∧ RS K mg ι2 S2 H' ∧ L ∉ ι2 ∧ H' L = some (.lst vs) ∧ RDs K ι2 H' acc vs ∧ acc.length ≤ i + 1 ∧
              FinG K mg W (fun ι' H' ds v => RLf K H ι' H' ds v) σ ι H ((lcL t src mc me (wipeS ρ own) (src.items.drop (i + 1)) S2).bind fun xs S3 => .ok (acc ++ xs) S3) Q, fun H' hN => ⟨m - 1, by omega, by omega, hN⟩, fun v H3 hyl => ?_⟩
            obtain ⟨x3, rs3, rd3⟩ := hy v H3 hyl
            cases ha : asg t src.items[i] (wipeS ρ own) with
            | none => rw [ha] at g; exact g.elim
            | some ρ1 =>
              rw [ha] at g
              simp only [Res.bind_assoc] at g
              refine ⟨ι2, _, S2, _, ρ1, rs3, reW.mono (x2.trans x3), rd3, ha, fun σ3 re3 off => ⟨?_, ?_⟩⟩
              · have e := offs_wipe (vs := own) (σ := L2.wipe σ own) (σ' := σ3) ⟨off.1, fun j hj => off.2 j fun z => hj (hsub j z)⟩
                rw [e, wipe_wipe]
              · refine ⟨ι2, ρ1, S2, rs3, re3, FinG.imp (fin_noX (R := fun _ _ b c => b = c) g) fun b H4 ⟨b', S4, ι4, x4, rs4, eb, g4⟩ => ?_⟩
                subst eb
                obtain ⟨hL3, n3⟩ := (x3.stays hL2 n2)
                obtain ⟨hL4, n4⟩ := (x4.stays hL3 n3)
                have xa := (x0.trans x3).trans x4
                have xb := (x2.trans x3).trans x4
                cases b' with
                | false =>
                  simp only [Bool.false_eq_true, if_false] at g4 ⊢
                  exact ⟨ι4, S4, acc, vs, xa, xb, rs4, n4, hL4, (ra.mono x3).mono x4, by omega, g4⟩
                | true =>
                  simp only [if_true] at g4 ⊢
                  simp only [Res.bind_assoc] at g4
                  refine ⟨ι4, ρ1, S4, rs4, re3.mono x4, FinG.imp (fin_noX (R := fun ι H d v => RD K ι H d v) g4) fun y H5 ⟨d, S5, ι5, x5, rs5, rd5, g5⟩ => ?_⟩
                  obtain ⟨hL5, n5⟩ := (x5.stays hL4 n4)
                  have ra5 := ((ra.mono x3).mono x4).mono x5
                  refine ⟨vs, hL5, by rw [← ra.length, sizeLine_eq]; omega, ι5, S5, acc ++ [d], vs ++ [y], (xa.trans x5).side hL0, (xb.trans x5).side hL, rs5.side hL5 n5, n5, upd_same, ?_, by simp; omega, ?_⟩
                  · exact (RDs.monoM (Mo.side hL5) ra5).snoc (RD.monoM (Mo.side hL5) rd5)
                  · have e : ∀ xs : List D, (acc ++ [d]) ++ xs = acc ++ (d :: xs) := fun xs => by simp
                    simp only [e]
                    exact g5
          · exact g.elim
        · rw [List.drop_eq_nil_of_le (by omega)] at g
          unfold lcL at g
          split at g
          · rename_i hok
            obtain ⟨hstop, _⟩ := wk ι2 S2 H2 x2.mo rs2 hok i
            refine .inl ⟨hstop (by omega), ?_⟩
            have g : FinG K mg W (fun ι' H' ds v => RLf K H ι' H' ds v) σ ι H (.ok (acc ++ []) S2) Q := g
            rw [List.append_nil] at g
            exact g ι2 H2 _ x0 rs2 ⟨L, vs, rfl, hL0, n2, hL2, ra⟩
          · exact g.elim
    · exact f.elim
theorem j_lc {elt tg iter : Expr} {ifs : List Expr} {scope : Scope} {t : Tgt} {mi : M Src} {mc : M Bool} {me : M D} (own : List (Str × Nat)) (hc : X.calm = true) (hN : X.N.Nodup) (hi : JI X W tg iter mi) (ok : BlkOk X.N X.env.scope scope own)
    (hg : ∀ (s : Shared) (H : Hp) (C : Addr) (cl : List (Str × Addr)) (fp : List Addr), JG (X.blk s H scope (compEnvC scope cl C X.env) fp) tg t) (ht : ∀ (s : Shared) (H : Hp) (C : Addr) (cl : List (Str × Addr)) (fp : List Addr), JC (X.blk s H scope (compEnvC scope cl C X.env) fp) noW ifs mc)
    (he : ∀ (s : Shared) (H : Hp) (C : Addr) (cl : List (Str × Addr)) (fp : List Addr), JE (X.blk s H scope (compEnvC scope cl C X.env) fp) noW elt me) (hsub : ∀ j ∈ t.slots, j ∈ own.map (·.2)) (hs : ∀ x, foldedSetIterable iter X.env x = pure x := by intro _; rfl) :
    JL X W (.ListComp elt [⟨tg, iter, ifs, 0⟩] scope pos) (mLc t (own.map (·.2)) mi mc me) :=
  (pe_lc hc hN hi ok hg ht he hs : PE X (.ListComp elt [⟨tg, iter, ifs, 0⟩] scope pos) (tLc (tI X.K X.mg W mi) (tTg X.K X.mg t) (tT X.K X.mg noW mc) (tE X.K X.mg noW me) (own.map (·.2)))).imp fun σ H Q h => lc_fin hsub h
end
end MI

set_option Elab.async false
set_option linter.all false
set_option maxRecDepth 100000
namespace MI
open PySem PySem.Spec PyProof.Rows L2

/-! ### places -/
theorem RDs.atI {K : PySem.W.Frag} {ι : List Addr} {H : Hp} {ds : List D} {vs : List V} {i : Int} {d : D} (r : RDs K ι H ds vs) (h : L2.atI ds i = some d) : ∃ v, L2.atI vs i = some v ∧ RD K ι H d v := by
  unfold L2.atI at h ⊢
  rw [← r.length]
  cases e : ixN ds.length i with
  | none => rw [e] at h; cases h
  | some j =>
    rw [e] at h
    obtain ⟨v, a, b⟩ := r.get (i := j) (d := d) h
    exact ⟨v, a, b⟩
def gIx (x y : D) (S : Store) : Res D := match y with
  | .int i => match x with
    | .str z => if z.length ≤ 16777216 then match L2.atI z.cps.toList i with
        | some c => .ok (.str ⟨#[c]⟩) S
        | none => .no
      else .no
    | x => match seqOf x S with
      | some ds => match L2.atI ds i with
        | some d => .ok d S
        | none => .no
      | none => .no
  | _ => .no
theorem calm_ix : Calm2 gIx := fun d e S c v S' h => by
  unfold gIx at h
  split at h
  · split at h
    · split at h
      · split at h <;> cases h
      · cases h
    · split at h
      · split at h <;> cases h
      · cases h
  · cases h
section
variable {X : Cx} {W : WX} {a b : Expr} {pos : Pos} {ma mb : M D}
theorem i_ix : IxR X (r2 X.K X.mg gIx) := by
  intro value slice pins s σ H x y v u Q I rx ry q hs
  obtain ⟨ι, S, d, e, rs, rd, re, fin⟩ := q
  unfold gIx at fin
  split at fin
  · rename_i i
    rw [re.int_inv] at ry
    split at fin
    · rename_i z
      rw [rd.str_inv] at rx
      split at fin
      · rename_i hz
        split at fin
        · rename_i c hc
          exact ix_str value slice pins s σ H _ _ v u Q I rx ry ⟨z, i, c, rfl, rfl, by rw [sizeLine_eq]; exact hz, hc, fin ι H _ (Ext.refl _ _) rs (.str _)⟩ hs
        · exact fin.elim
      · exact fin.elim
    · split at fin
      · rename_i ds hd
        split at fin
        · rename_i d' hd'
          obtain ⟨p, vs, rfl, rr, hq⟩ := seqOf_v rs rd hd
          obtain ⟨v', hv', rd'⟩ := rr.atI hd'
          rcases hq with hq | ⟨hq, _⟩
          · exact ix_list value slice pins s σ H _ _ v u Q I rx ry ⟨p, vs, i, v', rfl, rfl, hq, hv', fin ι H _ (Ext.refl _ _) rs rd'⟩ hs
          · exact ix_tup value slice pins s σ H _ _ v u Q I rx ry ⟨p, vs, i, v', rfl, rfl, hq, hv', fin ι H _ (Ext.refl _ _) rs rd'⟩ hs
        · exact fin.elim
      · exact fin.elim
  · exact fin.elim
theorem j_ix (ha : JE X W a ma) (hb : JE X W b mb) (hs : PlainIx b := by intro _ _; rfl) : JE X W (.Subscript a b pos) (mOp gIx ma mb) :=
  (pe_ix i_ix ha hb hs).imp fun σ H Q h => by
    obtain ⟨ι, ρ, S, rs, re, f⟩ := tG_seq (R := fun ι H d v => RD X.K ι H d v) (m := ma) (k := fun ρ x S1 => (mb ρ S1).bind fun y S2 => gIx x y S2) h
    refine ⟨ι, ρ, S, rs, re, f.imp fun x H1 ⟨ι1, ρ1, d, S1, rs1, re1, rd1, f1⟩ => ⟨ι1, ρ1, S1, rs1, re1, FinG.imp f1.bind fun y H2 ⟨e, S2, ι2, y2, rs2, rd2, f2⟩ => ?_⟩⟩
    exact ⟨ι2, S2, d, e, rs2, rd1.mono y2, rd2, f2.calm (calm_ix _ _ _)⟩
end
/-! slices -/
def cutL {α : Type} (xs : List α) (lo hi : Option Int) : List α := (xs.drop (HT.sIx xs.length 0 lo)).take (HT.sIx xs.length xs.length hi - HT.sIx xs.length 0 lo)
theorem RDs.cut {K : PySem.W.Frag} {ι : List Addr} {H : Hp} {ds : List D} {vs : List V} {lo hi : Option Int} (r : RDs K ι H ds vs) : RDs K ι H (cutL ds lo hi) (cutV vs lo hi) := by
  have e : cutV vs lo hi = cutL vs lo hi := rfl
  rw [e]
  unfold cutL
  rw [r.length]
  exact (r.drop _).take _
/-- a part of a slice -/
def mPart (m : Option (M D)) : M (Option Int) := match m with
  | none => fun _ S => .ok none S
  | some m => fun ρ S => (m ρ S).bind fun d S1 => match d with
    | .int i => .ok (some i) S1
    | _ => .no
inductive JP (X : Cx) (W : WX) : Option Expr → Option (M D) → Prop
  | none : JP X W none none
  | some {e : Expr} {m : M D} (h : JE X W e m) : JP X W (some e) (some m)
theorem jp_po {X : Cx} {W : WX} {e : Option Expr} {m : Option (M D)} (h : JP X W e m) : PO X e (tG X.K X.mg W (fun _ _ a b => a = b) (mPart m)) := by
  cases h with
  | none =>
    exact ⟨fun pins s σ H Q I ⟨ι, ρ, S, rs, re, f⟩ => po_none.run pins s σ H Q I (f ι H none (Ext.refl _ _) rs rfl)⟩
  | @some e m h =>
    refine ⟨fun pins s σ H Q I q => (po_some h).run pins s σ H Q I ?_⟩
    obtain ⟨ι, ρ, S, rs, re, f⟩ := tG_seq (R := fun ι H d v => RD X.K ι H d v) (m := m) (k := fun ρ d S1 => match d with
      | D.int i => Res.ok (some i) S1
      | _ => .no) q
    refine ⟨ι, ρ, S, rs, re, f.imp fun x H1 ⟨ι1, ρ1, d, S1, rs1, re1, rd1, f1⟩ => ?_⟩
    cases d with
    | int i =>
      rw [rd1.int_inv]
      exact ⟨i, rfl, f1 ι1 H1 _ (Ext.refl _ _) rs1 rfl⟩
    | _ => exact f1.elim
/-- a slice of a list: its items; of a tuple, a text: the value -/
def gSl (x : D) (lo hi : Option Int) (S : Store) : Res D := match x with
  | .tup xs => .ok (.tup (cutL xs lo hi)) S
  | .str z => if z.length ≤ 16777216 then .ok (.str (cutS z lo hi)) S else .no
  | x => match seqOf x S with
    | some xs => .ok (.ref S.length) (S ++ [.lst (cutL xs lo hi)])
    | none => .no
theorem calm_sl (x : D) (lo hi : Option Int) (S : Store) : ∀ c v S', gSl x lo hi S ≠ .exc c v S' := fun c v S' h => by
  unfold gSl at h
  split at h
  · cases h
  · split at h <;> cases h
  · split at h <;> cases h
def rSlG (K : PySem.W.Frag) (mg : Str → Option Value) : V → Option Int → Option Int → Hp → VK → Prop := fun x lo hi H Q => ∃ ι S d, RS K mg ι S H ∧ RD K ι H d x ∧ FinG K mg noW (fun ι H d v => RD K ι H d v) [] ι H (gSl d lo hi S) Q
def mSlice (m : M D) (lo hi : Option (M D)) : M D := fun ρ S => (m ρ S).bind fun x S1 => (mPart lo ρ S1).bind fun l S2 => (mPart hi ρ S2).bind fun h S3 => gSl x l h S3
section
variable {X : Cx} {W : WX} {e : Expr} {lo hi : Option Expr} {pos p2 : Pos} {m : M D} {ml mh : Option (M D)}
theorem s_slice : SlR X (rSlG X.K X.mg) := by
  intro pins s σ H x v vl vu lo hi sl Q I rx hs pl pu q
  obtain ⟨ι, S, d, rs, rd, f⟩ := q
  unfold gSl at f
  split at f
  · rename_i xs
    obtain ⟨a, vs, rfl, ha, r⟩ := rd.tup_inv
    refine sl_tupA pins s σ H _ v vl vu lo hi sl Q I rx hs pl pu ⟨a, vs, rfl, ha, fun z => ?_, fun _ p hp => fin_tup rs r.cut f hp⟩
    rw [← r.length] at z
    have e : cutL xs lo hi = xs := by
      unfold cutL
      rw [z.1, z.2]
      simp
    rw [e] at f
    exact f ι H _ (Ext.refl _ _) rs (.tup ha r)
  · rename_i z
    rw [rd.str_inv] at rx
    split at f
    · rename_i hz
      exact sl_str pins s σ H _ v vl vu lo hi sl Q I rx hs pl pu ⟨z, rfl, by rw [sizeLine_eq]; exact hz, f ι H _ (Ext.refl _ _) rs (.str _)⟩
    · exact f.elim
  · rename_i hnt _
    split at f
    · rename_i xs hx
      obtain ⟨a, vs, rfl, r, hq⟩ := seqOf_v rs rd hx
      rcases hq with hq | ⟨_, e⟩
      · exact sl_list pins s σ H _ v vl vu lo hi sl Q I rx hs pl pu ⟨a, vs, rfl, hq, fun p hp => fin_lst rs r.cut f hp⟩
      · exact absurd e (hnt xs)
    · exact f.elim
theorem j_slice (he : JE X W e m) (hl : JP X W lo ml) (hu : JP X W hi mh) : JE X W (.Subscript e (.Slice lo hi none p2) pos) (mSlice m ml mh) := (pe_slice s_slice he (jp_po hl) (jp_po hu)).imp fun σ H Q h => by
  obtain ⟨ι, ρ, S, rs, re, f⟩ := tG_seq (R := fun ι H d v => RD X.K ι H d v) (m := m) (k := fun ρ x S1 => (mPart ml ρ S1).bind fun l S2 => (mPart mh ρ S2).bind fun h S3 => gSl x l h S3) h
  refine ⟨ι, ρ, S, rs, re, f.imp fun x H1 ⟨ι1, ρ1, d, S1, rs1, re1, rd1, f1⟩ => ⟨ι1, ρ1, S1, rs1, re1, FinG.imp f1.bind fun l H2 ⟨l', S2, ι2, y2, rs2, el, f2⟩ => ⟨ι2, ρ1, S2, rs2, re1.mono y2, FinG.imp f2.bind fun u H3 ⟨u', S3, ι3, y3, rs3, eu, f3⟩ => ?_⟩⟩⟩
  subst el eu
  exact ⟨ι3, S3, d, rs3, (rd1.mono y2).mono y3, f3.calm (calm_sl _ _ _ _)⟩
end
/-! ### xs[i] = e, xs.append(e) -/
def gSet (o i d : D) (S : Store) : Res Unit := match o, i with
  | .ref a, .int k => match S[a]? with
    | some (.lst xs) => match ixN xs.length k with
      | some j => .ok () (S.set a (.lst (xs.set j d)))
      | none => .no
    | _ => .no
  | _, _ => .no
def sSet (o i e : M D) : MS := fun ρ S => SR.bindR (e ρ S) ρ fun d S1 => SR.bindR (o ρ S1) ρ fun x S2 => SR.bindR (i ρ S2) ρ fun y S3 => match gSet x y d S3 with
  | .ok _ S4 => .next ρ S4
  | _ => .no
def rSetG (K : PySem.W.Frag) (mg : Str → Option Value) : TSet := fun o i v H Q => ∃ ι S x y d S', RS K mg ι S H ∧ RD K ι H x o ∧ RD K ι H y i ∧ RD K ι H d v ∧ gSet x y d S = .ok () S' ∧ ∀ H', Ext ι H ι H' → RS K mg ι S' H' → Q H'
section
variable {X : Cx} {W : WX}
theorem put_lst {K : PySem.W.Frag} {mg : Str → Option Value} {ι : List Addr} {S : Store} {H : Hp} {i : Nat} {p : Addr} {xs : List D} {vs vs' : List V} (rs : RS K mg ι S H) (hp : ι[i]? = some p) (ho : H p = some (.lst vs)) (r : RDs K ι H xs vs') : RS K mg ι (S.set i (.lst xs)) (upd H p (.lst vs')) ∧ Ext ι H ι (upd H p (.lst vs')) := by
  have hk : (∀ x, (HO.lst vs) ≠ .tup x) ∧ (∀ x y, (HO.lst vs) ≠ .frz x y) ∧ ∀ x, (HO.lst vs) ≠ .xd x := ⟨fun _ => nofun, fun _ _ => nofun, fun _ => nofun⟩
  have x : Ext ι H ι (upd H p (.lst vs')) := Ext.put hp ho hk
  exact rs.put hp ho hk ⟨vs', upd_same, r.mono x⟩
theorem set_g : PSet X (rSetG X.K X.mg) := by
  intro pins s σ H o i v ov iv u Q I ro ri rv q
  obtain ⟨ι, S, x, y, d, S', rs, rx, ry, rd, e, q⟩ := q
  unfold gSet at e
  split at e
  · rename_i a k
    split at e
    · rename_i xs hx
      split at e
      · rename_i j hj
        cases e
        obtain ⟨p, rfl, hp⟩ := rx.ref_inv
        obtain ⟨vs, e1, r⟩ := rs.get' hx hp
        rw [ry.int_inv] at ri
        obtain ⟨rs', x'⟩ := put_lst rs hp e1 (r.set rd j)
        exact set_list pins s σ H _ _ v ov iv u Q I ro ri rv ⟨p, vs, k, j, rfl, rfl, e1, by rw [← r.length]; exact hj, q _ x' rs'⟩
      · cases e
    · cases e
  · cases e
theorem js_setI {o i e : Expr} {mo mi me : M D} {pos spos : Pos} (ho : JE X W o mo) (hi : JE X W i mi) (he : JE X W e me)
    (ha : ∀ v, assign (.Subscript o i spos) X.env v = (do
      let ov ← holding [v] (eval o X.env)
      let iv ← holding [v, ov] (eval i X.env)
      standAt spos
      holding [v, ov, iv] (setItem ov iv v)
      release [v, ov, iv] []) := by intro _; rfl)
    (hs : swapsWithSole [.Subscript o i spos] e pos.line X.env = pure false := by rfl) (hw : swappedStores [.Subscript o i spos] e X.env = pure none := by rfl)
    (h1 : (assignEach [.Subscript o i spos] X.env).map (·.2) = [assign (.Subscript o i spos) X.env] := by rfl) : JS X W (.Assign [.Subscript o i spos] e pos) (sSet mo mi me) :=
  (ps_asg he (pg_sub ho hi set_g ha) hs hw h1).imp fun Dn σ H h => by
    obtain ⟨ι, ρ, S, rs, re, f⟩ := tS_seq (R := fun ι H d v => RD X.K ι H d v) (m := me) (k := fun ρ d S1 => SR.bindR (mo ρ S1) ρ fun x S2 => SR.bindR (mi ρ S2) ρ fun y S3 => match gSet x y d S3 with
      | .ok _ S4 => .next ρ S4
      | _ => .no) h
    refine ⟨ι, ρ, S, rs, re, f.imp fun v H1 ⟨ι1, ρ1, d, S1, rs1, re1, rd1, f1⟩ => ⟨ι1, ρ1, S1, rs1, re1, FinG.imp (FinS.bindR re1 f1) fun ov H2 ⟨x, S2, ι2, y2, rs2, rd2, f2⟩ => ⟨ι2, ρ1, S2, rs2, re1.mono y2, FinG.imp (FinS.bindR (re1.mono y2) f2) fun iv H3 ⟨y, S3, ι3, y3, rs3, rd3, f3⟩ => ?_⟩⟩⟩
    cases hg : gSet x y d S3 with
    | ok a S4 =>
      rw [hg] at f3
      exact ⟨ι3, S3, x, y, d, S4, rs3, rd2.mono y3, rd3, (rd1.mono y2).mono y3, hg, fun H' x' rs' => f3 ι3 H' σ x' rs' (((re1.mono y2).mono y3).mono x')⟩
    | exc c v S4 => rw [hg] at f3; exact f3.elim
    | no => rw [hg] at f3; exact f3.elim
def gApp (x : D) (xs : List D) (S : Store) : Res D := match x, xs with
  | .ref a, [d] => match S[a]? with
    | some (.lst ys) => if ys.length < 16777216 then .ok .non (S.set a (.lst (ys ++ [d]))) else .no
    | _ => .no
  | _, _ => .no
/-- a method of a list by its item list -/
def rMt (K : PySem.W.Frag) (mg : Str → Option Value) (g : D → List D → Store → Res D) : V → List V → Hp → VK → Prop := fun x xs H Q => ∃ ι S d ds, RS K mg ι S H ∧ RD K ι H d x ∧ RDs K ι H ds xs ∧ FinG K mg noW (fun ι H d v => RD K ι H d v) [] ι H (g d ds S) Q
theorem m_app : MtR X "list.append" (rMt X.K X.mg gApp) := by
  intro pins s σ H x xs v us Q I rx rxs q
  obtain ⟨ι, S, d, ds, rs, rd, rds, f⟩ := q
  unfold gApp at f
  split at f
  · rename_i a d'
    split at f
    · rename_i ys hy
      split at f
      · rename_i hz
        obtain ⟨p, rfl, hp⟩ := rd.ref_inv
        obtain ⟨v', rfl, r1⟩ := rds.one_inv
        obtain ⟨vs, e1, r⟩ := rs.get' hy hp
        obtain ⟨rs', x'⟩ := put_lst rs hp e1 (r.snoc r1)
        exact mt_append pins s σ H _ _ v us Q I rx rxs ⟨p, vs, v', rfl, rfl, e1, by rw [← r.length, sizeLine_eq]; exact hz, f ι _ _ x' rs' .non⟩
      · exact f.elim
    · exact f.elim
  · exact f.elim
def isLst (d : D) (S : Store) : Bool := match d with
  | .ref i => match S[i]? with
    | some (.lst _) => true
    | _ => false
  | _ => false
/-- o.m(..), o a list -/
def mMt (g : D → List D → Store → Res D) (o : M D) (mes : M (List D)) : M D := fun ρ S => (o ρ S).bind fun x S1 => if isLst x S1 = true then (mes ρ S1).bind fun xs S2 => g x xs S2 else .no
theorem j_mt {name : Str} {id : String} {g : D → List D → Store → Res D} {o e : Expr} {es : List Expr} {apos cpos : Pos} {mo : M D} {mes : M (List D)} (slot : Slot "list" name id) (hty : typeOf (.builtin id) = pure (.type "method_descriptor")) (hm : MtR X id (rMt X.K X.mg g))
    (hcalm : ∀ d ds S c v S', g d ds S ≠ .exc c v S') (ho : JE X W o mo) (ha : JA X W (e :: es) mes)
    (hbase : attributeBase o name X.env (eval o X.env) = eval o X.env := by rfl)
    (hfew : ((backTo cpos (starEach (e :: es) X.env)).all (fun x => !x.1) && (backToKw cpos (keywordEach [] X.env)).all (fun x => x.1.isSome)
      && decide ((e :: es).length + ([] : List Keyword).length + (if ([] : List Keyword).isEmpty then 0 else 1) < 30)) = true := by rfl)
    (hline : (apos.endLine == cpos.line) = true := by rfl) (hs : starEach (e :: es) X.env = (false, eval e X.env) :: starEach es X.env := by rfl) (hplain : (backTo cpos (starEach es X.env)).any (·.1) = false := by rfl) :
    JE X W (.Call (.Attribute o name apos) (e :: es) [] cpos) (mMt g mo mes) :=
  (pe_bm PySem.F.plainAttrs_list slot hty hm ho ha hbase hfew hline hs hplain).imp fun σ H Q h => by
    obtain ⟨ι, ρ, S, rs, re, f⟩ := tG_seq (R := fun ι H d v => RD X.K ι H d v) (m := mo) (k := fun ρ x S1 => if isLst x S1 = true then (mes ρ S1).bind fun xs S2 => g x xs S2 else .no) h
    refine ⟨ι, ρ, S, rs, re, f.imp fun x H1 ⟨ι1, ρ1, d, S1, rs1, re1, rd1, f1⟩ => ?_⟩
    by_cases hl : isLst d S1 = true
    · rw [if_pos hl] at f1
      refine ⟨?_, ι1, ρ1, S1, rs1, re1, FinG.imp f1.bind fun y H2 ⟨e, S2, ι2, y2, rs2, rd2, f2⟩ => ⟨ι2, S2, d, e, rs2, rd1.mono y2, rd2, f2.calm (hcalm _ _ _)⟩⟩
      cases d with
      | ref i =>
        simp only [isLst] at hl
        split at hl
        · rename_i ys hy
          obtain ⟨a, rfl, ha⟩ := rd1.ref_inv
          obtain ⟨vs, e1, r⟩ := rs1.get' hy ha
          exact .inl ⟨rfl, vs, SqL.of e1⟩
        · cases hl
      | _ => simp [isLst] at hl
    · rw [if_neg hl] at f1
      exact f1.elim
theorem calm_app : ∀ d ds S c v S', gApp d ds S ≠ .exc c v S' := fun d ds S c v S' h => by
  unfold gApp at h
  split at h
  · split at h
    · split at h <;> cases h
    · cases h
  · cases h
theorem j_append {o e : Expr} {apos cpos : Pos} {mo me : M D} (ho : JE X W o mo) (he : JE X W e me)
    (hbase : attributeBase o "append" X.env (eval o X.env) = eval o X.env := by rfl)
    (hfew : ((backTo cpos (starEach (e :: []) X.env)).all (fun x => !x.1) && (backToKw cpos (keywordEach [] X.env)).all (fun x => x.1.isSome)
      && decide ((e :: []).length + ([] : List Keyword).length + (if ([] : List Keyword).isEmpty then 0 else 1) < 30)) = true := by rfl)
    (hline : (apos.endLine == cpos.line) = true := by rfl) (hs : starEach (e :: []) X.env = (false, eval e X.env) :: starEach [] X.env := by rfl) (hplain : (backTo cpos (starEach [] X.env)).any (·.1) = false := by rfl) :
    JE X W (.Call (.Attribute o "append" apos) [e] [] cpos) (mMt gApp mo (mCons me mNil)) :=
  j_mt PySem.F.slot_list_append PySem.F.type_list_append m_app calm_app ho (j_cons he j_nil hs) hbase hfew hline hs hplain
end
end MI

set_option Elab.async false
set_option linter.all false
set_option maxRecDepth 100000
namespace MI
open PySem PySem.Spec PyProof.Rows L2

/-! ### isinstance with a built-in class -/
def tyName (d : D) (S : Store) : Option String := match d with
  | .non => some "NoneType"
  | .bl _ => some "bool"
  | .int _ => some "int"
  | .str _ => some "str"
  | .tup _ => some "tuple"
  | .fro _ => some "list"
  | .ref i => match S[i]? with
    | some (.lst _) => some "list"
    | some (.dct _) => some "dict"
    | _ => none
def isTy (t T : String) : Bool := t == T || (t == "bool" && T == "int")
def gIsTy (T : String) (d : D) (S : Store) : Res D := match tyName d S with
  | some t => .ok (.bl (isTy t T)) S
  | none => .no
theorem calm_isTy {T : String} : Calm1 (gIsTy T) := fun d S c v S' h => by unfold gIsTy at h; split at h <;> cases h
def tyNames : List String := ["NoneType", "bool", "int", "str", "tuple", "list", "dict"]
theorem tyName_mem {d : D} {S : Store} {t : String} (h : tyName d S = some t) : t ∈ tyNames := by
  cases d with
  | ref i =>
    simp only [tyName] at h
    split at h <;> simp at h <;> subst h <;> decide
  | _ => simp only [tyName, Option.some.injEq] at h; subst h; decide
theorem tyName_v {K : PySem.W.Frag} {mg : Str → Option Value} {ι : List Addr} {S : Store} {H : Hp} {d : D} {v : V} {t : String} (rs : RS K mg ι S H) (rd : RD K ι H d v) (h : tyName d S = some t) : TyX K H v (.type t) := by
  cases d with
  | non => simp only [tyName, Option.some.injEq] at h; subst h; rw [rd.non_inv]; exact .base .non
  | bl b => simp only [tyName, Option.some.injEq] at h; subst h; rw [rd.bl_inv]; exact .base (.bl b)
  | int i => simp only [tyName, Option.some.injEq] at h; subst h; rw [rd.int_inv]; exact .base (.int i)
  | str x => simp only [tyName, Option.some.injEq] at h; subst h; rw [rd.str_inv]; exact .base (.str x)
  | tup xs =>
    simp only [tyName, Option.some.injEq] at h; subst h
    obtain ⟨a, vs, rfl, ha, _⟩ := rd.tup_inv
    rcases ha with (ha | ⟨o, ha⟩) | ⟨o, its, n, hk, hc, _⟩
    · exact .base (.tup ha)
    · exact .fTuple ha
    · exact .kTuple hk hc
  | fro xs =>
    simp only [tyName, Option.some.injEq] at h; subst h
    obtain ⟨a, vs, rfl, ha, _⟩ := rd.fro_inv
    rcases ha with ⟨o, ha⟩ | ⟨o, its, n, hk, hc, _⟩
    · exact .base (.frz ha)
    · exact .kList hk hc
  | ref i =>
    obtain ⟨a, rfl, ha⟩ := rd.ref_inv
    simp only [tyName] at h
    split at h
    · rename_i xs hx
      simp at h; subst h
      obtain ⟨vs, e, _⟩ := rs.get' hx ha
      exact .base (.lst e)
    · rename_i xs hx
      simp at h; subst h
      obtain ⟨vs, e, _⟩ := rs.get' hx ha
      exact .base (.dK e)
    · cases h
theorem j_isTy {X : Cx} {W : WX} {e : Expr} {m : M D} {T : Str} {Ts : String} {p1 p2 pos : Pos} (hm : X.mg "isinstance" = none) (hT : X.mg T = none) (hv : bootBuiltins T = some (.type Ts)) (hk : ∀ t ∈ tyNames, kitB t Ts = some (isTy t Ts)) (ha : JE X W e m) (hg : Gl X "isinstance" := by rfl) (hgT : Gl X T := by rfl)
    (hnT : T ≠ "__name__" := by decide) (hdT : (T == ("__debug__" : Str)) = false := by decide) (hb : bootBuiltins "isinstance" = some (.builtin "isinstance") := by decide +kernel)
    (he : starEach (e :: [.Name T p2]) X.env = (false, eval e X.env) :: starEach [.Name T p2] X.env := by rfl) (he2 : starEach [.Name T p2] X.env = (false, eval (.Name T p2) X.env) :: starEach [] X.env := by rfl) (hpl : (backTo pos (starEach [.Name T p2] X.env)).any (·.1) = false := by rfl) :
    JE X W (.Call (.Name "isinstance" p1) [e, .Name T p2] [] pos) (mUn (gIsTy Ts) m) :=
  (pe_callB call_isi hg hm hb (pa_cons ha (pa_cons (pe_bltn (v := V.ty Ts) hgT hT hv rfl hnT hdT) pa_nil he2) he) (by decide) (by decide) he hpl).imp fun σ H Q h => by
    obtain ⟨ι, ρ, S, rs, re, f⟩ := tG_seq (R := fun ι H d v => RD X.K ι H d v) (m := m) (k := fun ρ x S1 => gIsTy Ts x S1) h
    refine ⟨ι, ρ, S, rs, re, f.imp fun x H1 ⟨ι1, ρ1, d, S1, rs1, re1, rd1, f1⟩ => ?_⟩
    unfold gIsTy at f1
    split at f1
    · rename_i t ht
      exact ⟨x, V.ty Ts, .type t, .type Ts, isTy t Ts, rfl, .ty Ts, tyName_v rs1 rd1 ht, kit_ty (hk t (tyName_mem ht)), f1 ι1 H1 _ (Ext.refl _ _) rs1 (.bl _)⟩
    · exact f1.elim

/-! ### what a def leaves of the store -/
mutual
def below (n : Nat) : D → Bool
  | .tup xs => belows n xs
  | .fro xs => belows n xs
  | .ref i => decide (i < n)
  | _ => true
def belows (n : Nat) : List D → Bool
  | [] => true
  | x :: xs => below n x && belows n xs
end
def cellBelow (n : Nat) : Cell → Bool
  | .lst xs => belows n xs
  | .dct kvs => belows n (kvs.map (·.2))
  | .exc _ v => below n v
def Cell.beq : Cell → Cell → Bool
  | .lst xs, .lst ys => D.beqs xs ys
  | .dct xs, .dct ys => decide (xs.map (·.1) = ys.map (·.1)) && D.beqs (xs.map (·.2)) (ys.map (·.2))
  | .exc c v, .exc c' v' => decide (c = c') && D.beq v v'
  | _, _ => false
theorem Cell.beq_refl (c : Cell) : Cell.beq c c = true := by
  cases c <;> simp [Cell.beq, D.beqs_refl, D.beq_refl]
theorem pairs_eq {α β : Type} : ∀ {xs ys : List (α × β)}, xs.map (·.1) = ys.map (·.1) → xs.map (·.2) = ys.map (·.2) → xs = ys
  | [], [], _, _ => rfl
  | [], _ :: _, h, _ => by simp at h
  | _ :: _, [], h, _ => by simp at h
  | (a, b) :: xs, (a', b') :: ys, h1, h2 => by
    simp only [List.map_cons, List.cons.injEq] at h1 h2
    rw [h1.1, h2.1, pairs_eq h1.2 h2.2]
theorem Cell.beq_eq {c c' : Cell} (h : Cell.beq c c' = true) : c = c' := by
  cases c <;> cases c' <;> simp only [Cell.beq, Bool.and_eq_true, decide_eq_true_eq, Bool.false_eq_true] at h
  · rw [D.beqs_eq _ _ h]
  · rw [pairs_eq h.1 (D.beqs_eq _ _ h.2)]
  · rw [h.1, D.beq_eq _ _ h.2]
/-- the cells of S stand in S', or hold nothing of what is new -/
def keeps (n : Nat) : Store → Store → Bool
  | [], _ => true
  | c :: r, c' :: r' => (Cell.beq c c' || cellBelow n c') && keeps n r r'
  | _ :: _, [] => false
theorem keeps_get {n : Nat} : ∀ {S S' : Store} {i : Nat} {c c' : Cell}, keeps n S S' = true → S[i]? = some c → S'[i]? = some c' → c' = c ∨ cellBelow n c' = true
  | [], _, _, _, _, _, h, _ => by simp at h
  | _ :: _, [], _, _, _, h, _, _ => by simp [keeps] at h
  | c0 :: r, c1 :: r', 0, c, c', h, e1, e2 => by
    simp at e1 e2; subst e1; subst e2
    simp only [keeps, Bool.and_eq_true, Bool.or_eq_true] at h
    exact h.1.imp (fun z => (Cell.beq_eq z).symm) fun z => z
  | c0 :: r, c1 :: r', i + 1, c, c', h, e1, e2 => by
    simp only [keeps, Bool.and_eq_true] at h
    exact keeps_get h.2 (by simpa using e1) (by simpa using e2)
theorem keeps_len {n : Nat} : ∀ {S S' : Store}, keeps n S S' = true → S.length ≤ S'.length
  | [], _, _ => Nat.zero_le _
  | _ :: _, [], h => by simp [keeps] at h
  | c :: r, c' :: r', h => by
    simp only [keeps, Bool.and_eq_true] at h
    exact Nat.succ_le_succ (keeps_len h.2)
/-- a call's result: where the value holds nothing new, the new cells go; where it is one new list of old things, it alone stays -/
def retOf (S : Store) (d : D) (S' : Store) : Res D :=
  if keeps S.length S S' = true then
    if below S.length d = true then .ok d (S'.take S.length)
    else match d with
      | .ref i => match S'[i]? with
        | some (.lst xs) => if belows S.length xs = true then .ok (.ref S.length) (S'.take S.length ++ [.lst xs]) else .ok d S'
        | _ => .ok d S'
      | _ => .ok d S'
  else .ok d S'
def excOf (S : Store) (c : Str) (d : D) (S' : Store) : Res D :=
  if keeps S.length S S' = true ∧ below S.length d = true then .exc c d (S'.take S.length) else .exc c d S'
mutual
theorem RD.back {K : PySem.W.Frag} {ι t : List Addr} {H : Hp} : ∀ {d : D} {v : V}, RD K (ι ++ t) H d v → below ι.length d = true → RD K ι H d v
  | _, _, .non, _ => .non
  | _, _, .bl b, _ => .bl b
  | _, _, .int i, _ => .int i
  | _, _, .str z, _ => .str z
  | _, _, .tup h r, b => .tup h (RDs.back r (by simpa [below] using b))
  | .ref i, _, .ref h, b => .ref (by
    have hi : i < ι.length := by simpa [below] using b
    rw [List.getElem?_append_left hi] at h; exact h)
  | _, _, .fro h r, b => .fro h (RDs.back r (by simpa [below] using b))
theorem RDs.back {K : PySem.W.Frag} {ι t : List Addr} {H : Hp} : ∀ {ds : List D} {vs : List V}, RDs K (ι ++ t) H ds vs → belows ι.length ds = true → RDs K ι H ds vs
  | _, _, .nil, _ => .nil
  | _, _, .cons h r, b => by
    simp only [belows, Bool.and_eq_true] at b
    exact .cons (RD.back h b.1) (RDs.back r b.2)
end
mutual
theorem RD.isBelow {K : PySem.W.Frag} {ι : List Addr} {H : Hp} : ∀ {d : D} {v : V}, RD K ι H d v → below ι.length d = true
  | _, _, .non => by simp [below]
  | _, _, .bl b => by simp [below]
  | _, _, .int i => by simp [below]
  | _, _, .str z => by simp [below]
  | _, _, .tup h r => by simp only [below]; exact RDs.isBelow r
  | _, _, .ref h => by simp only [below, decide_eq_true_eq]; exact (List.getElem?_eq_some_iff.mp h).1
  | _, _, .fro h r => by simp only [below]; exact RDs.isBelow r
theorem RDs.isBelow {K : PySem.W.Frag} {ι : List Addr} {H : Hp} : ∀ {ds : List D} {vs : List V}, RDs K ι H ds vs → belows ι.length ds = true
  | _, _, .nil => by simp [belows]
  | _, _, .cons h r => by simp only [belows, RD.isBelow h, RDs.isBelow r, Bool.and_true]
end
theorem RKV.isBelow {K : PySem.W.Frag} {ι : List Addr} {H : Hp} : ∀ {l : List (Key × D)} {l' : List (Key × V)}, RKV K ι H l l' → belows ι.length (l.map (·.2)) = true
  | _, _, .nil => by simp [belows]
  | _, _, .cons h r => by simp only [List.map_cons, belows, RD.isBelow h.2, RKV.isBelow r, Bool.and_true]
theorem RKV.back {K : PySem.W.Frag} {ι t : List Addr} {H : Hp} : ∀ {l : List (Key × D)} {l' : List (Key × V)}, RKV K (ι ++ t) H l l' → belows ι.length (l.map (·.2)) = true → RKV K ι H l l'
  | _, _, .nil, _ => .nil
  | _, _, .cons h r, b => by
    simp only [List.map_cons, belows, Bool.and_eq_true] at b
    exact .cons ⟨h.1, h.2.back b.1⟩ (RKV.back r b.2)
theorem CellOk.isBelow {K : PySem.W.Frag} {mg : Str → Option Value} {ι : List Addr} {H : Hp} {a : Addr} {c : Cell} (h : CellOk K mg ι H a c) : cellBelow ι.length c = true := by
  cases c with
  | lst xs => obtain ⟨_, _, r⟩ := h; exact r.isBelow
  | dct kvs => obtain ⟨_, _, r⟩ := h; exact RKV.isBelow r
  | exc c v => obtain ⟨_, _, _, _, _, _, _, _, r⟩ := h; exact r.isBelow
theorem CellOk.back {K : PySem.W.Frag} {mg : Str → Option Value} {ι t : List Addr} {H : Hp} {a : Addr} {c : Cell} (h : CellOk K mg (ι ++ t) H a c) (b : cellBelow ι.length c = true) : CellOk K mg ι H a c := by
  cases c with
  | lst xs => obtain ⟨vs, e, r⟩ := h; exact ⟨vs, e, r.back b⟩
  | dct kvs => obtain ⟨vs, e, r⟩ := h; exact ⟨vs, e, RKV.back r b⟩
  | exc c v => obtain ⟨C, dd, fs, u, e1, e2, e3, e4, r⟩ := h; exact ⟨C, dd, fs, u, e1, e2, e3, e4, r.back b⟩
theorem Ext.back {ι t : List Addr} {H H' : Hp} (x : Ext ι H (ι ++ t) H') : Ext ι H ι H' := ⟨⟨[], by simp⟩, fun _ h => .inl h, x.keep, x.tups, x.frzs⟩
theorem RS.back {K : PySem.W.Frag} {mg : Str → Option Value} {ι t : List Addr} {S S' : Store} {H H' : Hp} (r0 : RS K mg ι S H) (r : RS K mg (ι ++ t) S' H') (k : keeps S.length S S' = true) : RS K mg ι (S'.take S.length) H' := by
  have hl := keeps_len k
  refine ⟨by rw [List.length_take, Nat.min_eq_left hl, r0.len], (List.nodup_append.mp r.nd).1, fun i c a e1 e2 => ?_⟩
  have hi : i < S.length := by rw [r0.len]; exact (List.getElem?_eq_some_iff.mp e2).1
  rw [List.getElem?_take_of_lt hi] at e1
  have ok := r.at_ i c a e1 (by rw [List.getElem?_append_left (by rw [← r0.len]; exact hi)]; exact e2)
  have ok0 := r0.at_ i S[i] a (List.getElem?_eq_getElem hi) e2
  refine ok.back ?_
  rcases keeps_get k (List.getElem?_eq_getElem hi) e1 with z | z
  · rw [z]; exact ok0.isBelow
  · rw [← r0.len]; exact z
theorem fin_ret {K : PySem.W.Frag} {mg : Str → Option Value} {W : WX} {σ : L2.St} {ι : List Addr} {S S' : Store} {H : Hp} {d : D} {Q : VK} (rs : RS K mg ι S H) (h : FinG K mg W (fun ι H d v => RD K ι H d v) σ ι H (retOf S d S') Q) :
    FinG K mg W (fun ι H d v => RD K ι H d v) σ ι H (.ok d S') Q := by
  unfold retOf at h
  split at h
  · rename_i k
    split at h
    · rename_i b
      intro ι' H' v x rs' rd
      obtain ⟨t, e⟩ := x.pre
      subst e
      exact h ι H' v x.back (rs.back rs' k) (rd.back (by rw [← rs.len]; exact b))
    · rename_i hnb
      split at h
      · rename_i i
        split at h
        · rename_i xs hx
          split at h
          · rename_i b
            intro ι' H' v x rs' rd
            obtain ⟨t, e⟩ := x.pre
            subst e
            obtain ⟨a, rfl, ha⟩ := rd.ref_inv
            obtain ⟨vs, e1, r⟩ := rs'.get' hx ha
            have hni : ¬ i < ι.length := by
              intro z
              apply hnb
              simp only [below, decide_eq_true_eq]
              rw [rs.len]; exact z
            have na : a ∉ ι := fun z => by
              obtain ⟨j, hj, e⟩ := List.getElem_of_mem z
              have := nd_ix rs'.nd (x := a) (i := j) (j := i) (by rw [List.getElem?_append_left hj, List.getElem?_eq_getElem hj, e]) ha
              omega
            have r1 := rs.back rs' k
            refine h (ι ++ [a]) H' _ ⟨⟨[a], rfl⟩, fun b hb => ?_, x.keep, x.tups, x.frzs⟩ (r1.adopt na ⟨vs, e1, (r.back (by rw [← rs.len]; exact b)).more _⟩) (.ref ?_)
            · rcases List.mem_append.mp hb with z | z
              · exact .inl z
              · have e : b = a := by simpa using z
                rw [e]
                exact x.new a (List.mem_of_getElem? ha)
            · rw [rs.len, List.getElem?_append_right (Nat.le_refl _), Nat.sub_self]; rfl
          · exact h
        · exact h
      · exact h
  · exact h
theorem fin_exc {K : PySem.W.Frag} {mg : Str → Option Value} {W : WX} {σ : L2.St} {ι : List Addr} {S S' : Store} {H : Hp} {c : Str} {d : D} {Q : VK} (rs : RS K mg ι S H) (h : FinG K mg W (fun ι H d v => RD K ι H d v) σ ι H (excOf S c d S') Q) :
    FinG K mg W (fun ι H d v => RD K ι H d v) σ ι H (.exc c d S') Q := by
  unfold excOf at h
  split at h
  · rename_i b
    intro ι' H' C dd fs u x rs' e1 e2 e3 rd
    obtain ⟨t, e⟩ := x.pre
    subst e
    exact h ι H' C dd fs u x.back (rs.back rs' b.1) e1 e2 e3 (rd.back (by rw [← rs.len]; exact b.2))
  · exact h

/-! ### a def -/
/-- n slots, of which the arguments are the first -/
def fnOf (n : Nat) (body : MS) (ds : List D) (S : Store) : Res D := match body (ds.map some ++ List.replicate (n - ds.length) none) S with
  | .ret d S' => retOf S d S'
  | .next _ S' => retOf S .non S'
  | .exc c v _ S' => excOf S c v S'
  | _ => .no
def spF (K : PySem.W.Frag) (mg : Str → Option Value) (n : Nat) (f : List D → Store → Res D) : Sp := fun vs H Q E => vs.length = n ∧ ∃ ι S ds, RS K mg ι S H ∧ RDs K ι H ds vs ∧ FinG K mg (fun c d _ H => E c d H) (fun ι H d v => RD K ι H d v) [] ι H (f ds S) Q
theorem RE.start {K : PySem.W.Frag} {ι : List Addr} {H : Hp} {ds : List D} {vs : List V} {N : List Str} (r : RDs K ι H ds vs) : RE K ι H (ds.map some ++ List.replicate (N.length - ds.length) none) (L2.start N vs) := by
  have hl := r.length
  refine ⟨by unfold L2.start; simp [hl], fun i d e => ?_⟩
  unfold L2.start
  by_cases hi : i < ds.length
  · rw [List.getElem?_append_left (by simpa using hi), List.getElem?_map] at e
    rw [List.getElem?_append_left (by simpa [← hl] using hi), List.getElem?_map]
    cases e1 : ds[i]? with
    | none => rw [e1] at e; cases e
    | some d' =>
      rw [e1] at e
      cases e
      obtain ⟨v, hv, rd⟩ := r.get e1
      exact ⟨v, by rw [hv]; rfl, rd⟩
  · rw [List.getElem?_append_right (by simpa using hi), List.getElem?_replicate] at e
    split at e <;> cases e
/-- a def's promise where no repr is under way -/
structure FnG (P : Program) (w : World) (K : PySem.W.Frag) (mg : Str → Option Value) (base : Heap) (k : Nat) (f : Addr) (fd : FuncData) (ps : List Str) (sp : Sp) : Prop where
  len : ∀ vs H Q E, sp vs H Q E → vs.length = ps.length
  run : ∀ (A : Around) (outer : List PySem.Env) (s : Shared) (H : Hp) (args : Args) (us : List Value) (vs : List V) (Q : VK) (E : XK), Room k A → A.guards = some [] → Env0 P w K mg base A outer s H → BindsTo s fd args (ps.zip us) → Vals vs us → sp vs H Q E →
    codeAny (model P w) A (.call (.ref f) args) (CR (L2.CX P w) outer P w H s Q E) s
theorem FnG.mono {P : Program} {w : World} {K : PySem.W.Frag} {mg : Str → Option Value} {base : Heap} {j k : Nat} {f : Addr} {fd : FuncData} {ps : List Str} {sp : Sp} (F : FnG P w K mg base j f fd ps sp) (h : j ≤ k) : FnG P w K mg base k f fd ps sp :=
  ⟨F.len, fun A outer s H args us vs Q E hr => F.run A outer s H args us vs Q E (hr.mono h)⟩
/-- THE RULE for a def -/
theorem fn_ok {P : Program} {w : World} {K : PySem.W.Frag} {mg : Str → Option Value} {base : Heap} {x qual : Str} {st : Stmt} {f : Addr} {fd : FuncData} {N ps : List Str} {k : Nat} {body : MS} (F : Fun K x qual st f fd) (S : FnScope N ps (defScope st))
    (hbody : ∀ (cdv : Value) (A : Around) (outer : List PySem.Env) (s : Shared) (H : Hp) (E : XK), Room k (A.deeper (envOfC qual (defScope st) s.heap.objs.size f cdv)) → (A.deeper (envOfC qual (defScope st) s.heap.objs.size f cdv)).guards = some [] →
      Takes (cxOf (L2.CX P w) P w K mg base N qual (defScope st) f cdv A outer s H E) (fun c d _ H => E c d H) →
      JSs (cxOf (L2.CX P w) P w K mg base N qual (defScope st) f cdv A outer s H E) (fun c d _ H => E c d H) (defBody st) body) : FnG P w K mg base (k + 1) f fd ps (spF K mg ps.length (fnOf N.length body)) := by
  obtain ⟨oc, od, kV, doc, pm, an, cdv, ct, osl, rfl, lk, hcd⟩ := F.ex
  refine ⟨fun vs H Q E h => h.1, fun A outer s H args us vs Q E room grd env0 binds rv want => ?_⟩
  have lenV := want.1
  have inK : K.In s.heap := env0.mod.kin.keeps fun b o e => (env0.bs b o e).1
  have lim : s.heap.NoLimit := env0.mod.nolimit.keeps fun b o e => (env0.bs b o e).1
  have kinds : ∀ y ∈ ps.zip us, (defScope st).names.lookup y.1 = some .local ∨ ((defScope st).names.lookup y.1 = some .cell ∧ ((cellsFrom (s.heap.objs.size + 1) (defScope st).names []).lookup y.1).isSome = true) := fun ⟨n, v⟩ hy =>
    (S.par n (List.of_mem_zip hy).1).imp (fun q => q) fun q => ⟨q, PySem.W.cellsFrom_some _ _ _ (.inl q)⟩
  refine codeAny_call_function room.depth (inK _ _ lk) rfl S.co S.gen rfl (PySem.W.codeRec_of inK hcd) (binds _ _ _ _ ?_)
  refine wpAny_newFunctionEnv_cells S.kind kinds fun env he s1 made => ?_
  subst he
  refine ⟨lim.keeps made.toInCall.keep, codeAny_func ?_⟩
  have I0 : Inv (cxOf (L2.CX P w) P w K mg base N qual (defScope st) f cdv A outer s H E) [] (L2.start N vs) H s1 := inv_start S room.hd env0 lenV rv made
  have body1 := hbody cdv A outer s H E (room.deeper _) grd (takes_of rfl rfl rfl rfl)
  obtain ⟨_, ι, St, ds, rs, rd, fin⟩ := want
  have reading : tS K mg (fun c d _ H => E c d H) body { nx := fun _ H' => Q .non H', rt := Q } (L2.start N vs) H := by
    refine ⟨ι, _, St, rs, RE.start (N := N) rd, ?_⟩
    unfold fnOf at fin
    cases hb : body (ds.map some ++ List.replicate (N.length - ds.length) none) St with
    | ret d S' => rw [hb] at fin; exact fun ι' H' v => fin_ret rs fin ι' H' v
    | next ρ S' => rw [hb] at fin; exact fun ι' H' σ' x' rs' re' => fin_ret rs fin ι' H' .non x' rs' .non
    | exc c v ρ S' => rw [hb] at fin; exact fun ι' H' σ' C dd fs u x' rs' re' => fin_exc rs fin ι' H' C dd fs u x' rs'
    | brk ρ S' => rw [hb] at fin; exact fin.elim
    | cont ρ S' => rw [hb] at fin; exact fin.elim
    | no => rw [hb] at fin; exact fin.elim
  refine wpAny_mono (body1.run [] s1 (L2.start N vs) H _ I0 reading) (fun fl s' hs => ?_) fun e s' hs => hs
  cases fl with
  | ret u => obtain ⟨v, σ', H', J, rv, q⟩ := hs; exact ⟨v, H', J.os, J.bare, J.base, J.hok, rv, q⟩
  | next => obtain ⟨σ', H', J, q⟩ := hs; exact ⟨.non, H', J.os, J.bare, J.base, J.hok, rfl, q⟩
  | brk => obtain ⟨_, _, _, q⟩ := hs; exact False.elim q
  | cont => obtain ⟨_, _, _, q⟩ := hs; exact False.elim q
/-- a weaker function's promise -/
theorem FnG.imp {P : Program} {w : World} {K : PySem.W.Frag} {mg : Str → Option Value} {base : Heap} {k : Nat} {f : Addr} {fd : FuncData} {ps : List Str} {sp sp' : Sp} (F : FnG P w K mg base k f fd ps sp) (h : ∀ vs H Q E, sp' vs H Q E → sp vs H Q E) : FnG P w K mg base k f fd ps sp' :=
  ⟨fun vs H Q E q => F.len vs H Q E (h _ _ _ _ q), fun A outer s H args us vs Q E hr hg he hb hv hs => F.run A outer s H args us vs Q E hr hg he hb hv (h _ _ _ _ hs)⟩
/-- f(e, ..) -/
theorem j_call {X : Cx} {W : WX} {x : Str} {p pos : Pos} {e : Expr} {es : List Expr} {mes : M (List D)} {k n : Nat} {f : Addr} {fd : FuncData} {ps : List Str} {g : List D → Store → Res D} (tk : Takes X W) (F : FnG X.prog X.w X.K X.mg X.base k f fd ps (spF X.K X.mg n g)) (hr : Room k X.A) (hG : X.A.guards = some []) (hm : X.mg x = some (.ref f)) (hk : PySem.W.keepIn X.K (.ref f) = true) (hb : Binds X.K fd ps [])
    (ha : JA X W (e :: es) mes) (hlen : ∀ ρ S ds S', mes ρ S = .ok ds S' → ds.length = n) (hg : Gl X x := by rfl) (hdb : (x == ("__debug__" : Str)) = false := by decide) (he : starEach (e :: es) X.env = (false, eval e X.env) :: starEach es X.env := by rfl) (hpl : (backTo pos (starEach es X.env)).any (·.1) = false := by rfl) :
    JE X W (.Call (.Name x p) (e :: es) [] pos) (mApp g mes) := by
  refine ⟨fun pins s σ H Q I want => ?_⟩
  obtain ⟨ι, ρ, S, rs, re, fin⟩ := want
  refine wpAny_Call_Name_kw (ld_glob I hg hm ?_ hdb)
  refine PySem.W.callWith_K (h₀ := X.base) I.ok.mod.kin hk (thn (ha.run pos pins s σ H (fun vs H1 => spF X.K X.mg n g vs H1 Q (WE W σ)) I ⟨ι, ρ, S, rs, re, ?_⟩) fun us s1 ⟨vs, H1, I1, rv, want1⟩ => ⟨I1.kIn, ?_⟩) he hpl
  · unfold mApp at fin
    cases hm2 : mes ρ S with
    | ok ds S1 =>
      rw [hm2] at fin
      intro ι' H' vs x' rs' rd
      refine ⟨by rw [← rd.length]; exact hlen _ _ _ _ hm2, ι', S1, ds, rs', rd, ?_⟩
      have fin : FinG X.K X.mg W (fun ι H d v => RD X.K ι H d v) σ ι' H' (g ds S1) Q := FinG.weak x' fin
      cases hg2 : g ds S1 with
      | ok d S2 => rw [hg2] at fin; exact fin
      | exc c d S2 => rw [hg2] at fin; exact fin
      | no => rw [hg2] at fin; exact fin
    | exc c v S1 => rw [hm2] at fin; exact fin
    | no => rw [hm2] at fin; exact fin
  · have hl : us.length = ps.length := by rw [← rv.length]; exact F.len _ _ _ _ want1
    have bd := hb s1 us I1.kIn (by rw [List.append_nil]; exact hl)
    rw [List.append_nil] at bd
    refine wpAny_call (codeAny_mono (F.run X.A X.stack s1 H1 ⟨us, []⟩ us vs Q (WE W σ) hr hG I1.env0 bd rv want1) fun r s' hq => ?_)
    cases r with
    | error e => exact passAt tk σ pins H1 s1 e s' I1 hq
    | ok fl =>
      cases fl with
      | ret u => exact I1.after hq
      | next => exact False.elim hq
      | brk => exact False.elim hq
      | cont => exact False.elim hq
theorem len_nil : ∀ ρ S ds S', mNil ρ S = .ok ds S' → ds.length = 0 := fun ρ S ds S' h => by
  have : Res.ok [] S = Res.ok ds S' := h
  cases this
  rfl
theorem len_cons {a : M D} {r : M (List D)} {n : Nat} (h : ∀ ρ S ds S', r ρ S = .ok ds S' → ds.length = n) : ∀ ρ S ds S', mCons a r ρ S = .ok ds S' → ds.length = n + 1 := fun ρ S ds S' e => by
  unfold mCons at e
  cases ha : a ρ S with
  | ok x S1 =>
    rw [ha] at e
    have e : (r ρ S1).bind (fun xs S2 => .ok (x :: xs) S2) = .ok ds S' := e
    cases hr : r ρ S1 with
    | ok xs S2 =>
      rw [hr] at e
      have e : Res.ok (x :: xs) S2 = Res.ok ds S' := e
      cases e
      rw [List.length_cons, h _ _ _ _ hr]
    | exc c v S2 => rw [hr] at e; cases e
    | no => rw [hr] at e; cases e
  | exc c v S1 => rw [ha] at e; cases e
  | no => rw [ha] at e; cases e
end MI

set_option Elab.async false
set_option linter.all false
set_option maxRecDepth 100000
set_option maxHeartbeats 4000000
namespace MI
open PySem PySem.Spec PyProof.Rows L2

/-! ### own errors: what the written part says of a class -/
structure ErrC (K : PySem.W.Frag) (mg : Str → Option Value) (c : Str) (C fI : Addr) : Prop where
  gC : mg c = some (.ref C)
  ox : OexC K C
  iC : PySem.W.findIn K (.ref C) "__init__" = some (some (.ref fI))
  ex : ExcC K C
  noV : PySem.W.findIn K (.ref C) "value" = some none
theorem ErrC.xf {K : PySem.W.Frag} {mg : Str → Option Value} {c : Str} {C fI : Addr} (T : ErrC K mg c C fI) : XfC K C := ⟨T.ex.hg, T.ex.hk, T.ex.hs, T.ex.hd⟩
theorem ErrC.raises {X : Cx} {c : Str} {C fI : Addr} (T : ErrC X.K X.mg c C fI) : Raises X (.ref C) := raises_own T.ox.exC T.ox.tyC

/-! #### the class of an exception that has a dict -/
section
open PySem.W PySem.Calls
variable {prog : Program} {w : World} {A : Around} {E : Value → Shared → Prop} {s : Shared} {K : Frag} {x C : Addr} {ob : Obj} {od : Option Obj}
theorem find_cls (T : ExcC K C) : findObj K C od "__class__" = some (.bind (.builtin "getset_descriptor.__get__") (.builtin "object.__class__")) := by
  obtain ⟨cd, hc, _⟩ := any_some T.hd
  unfold findObj
  rw [hc, Option.bind_some, T.ha, Option.bind_some]
  simp [T.hn, T.ht]
theorem cls_attr {Q : Option Value → Shared → Prop} (T : ExcC K C) (X : K.In s.heap) (I : InstAt s.heap x ob C od) (q : Q (some (.ref C)) { s with toks := s.toks + 1 }) : wpAny (model prog w) A (getAttr? (.ref x) "__class__") Q E s := by
  obtain ⟨hp, g, dr, tk, os⟩ := s
  have Lt := I.type (M := model prog w)
  have La := looks_findIn (M := model prog w) X T.hg
  have Lb := looks_findIn (M := model prog w) X T.hk
  have Lc := looks_find (M := model prog w) X I (find_cls T)
  have Ls : Looks (model prog w) hp (isInstance (.ref x) (.type "BaseException")) true := Lt.andThen (looks_subIn X T.hs)
  have n1 : (Value.builtin "BaseException.__getattribute__" == Value.builtin "object.__getattribute__") = false := by decide +kernel
  have n2 : (onTheHeap (Value.ref C) && Value.builtin "BaseException.__getattribute__" == Value.builtin "object.__getattribute__") = false := by rw [n1]; rfl
  have n3 : (false && onTheHeap (Value.builtin "BaseException.__getattribute__")) = false := rfl
  unfold getAttr? getAttrBy? getAttrBy
  refine wpAny_bind (wpAny_mkText (wpAny_bind (wpAny_attempt (wpAny_holding (wpAny_bind (Lt.at (wpAny_bind (La.at ?_))))))))
  show wpAny _ _ (if (onTheHeap (Value.ref C) && Value.builtin "BaseException.__getattribute__" == Value.builtin "object.__getattribute__") = true then _ else _) _ _ _
  rw [n2, if_neg Bool.false_ne_true]
  unfold getAttrByItsOwn hookBefore
  refine wpAny_bind ?_
  rw [if_pos (show onTheHeap (Value.ref C) = true from rfl)]
  refine Lb.at ?_
  refine wpAny_bind (wpAny_attempt (wpAny_holding ?_))
  unfold callGetattribute
  rw [n3, if_neg Bool.false_ne_true]
  unfold boundAndCalled
  rw [PySem.F.excAttr_ValueError.ga.bind (.ref x)]
  refine wpAny_bind (wpAny_pure ?_)
  show wpAny _ _ (call (.builtin "BaseException.__getattribute__") [.ref x, .str "__class__" tk]) _ _ _
  refine wpAny_call (codeAny_call_builtin PySem.F.excAttr_ValueError.ga.plain PySem.F.entry_bexc_ga ?_)
  refine @check_slot (model prog w) _ _ ⟨hp, g, dr, tk + 1, os⟩ "BaseException.__getattribute__" "BaseException" "__getattribute__" (.ref x) [.str "__class__" tk] [] _ (by decide +kernel) (by decide +kernel) Ls (PySem.F.args_bexc_ga (.ref x) (.str "__class__" tk)) ?_
  unfold Builtin.«object.__getattribute__»
  refine wpAny_bind (wpAny_of_eq (a := ((Value.ref x : Value), [Value.str "__class__" tk])) (by first | rfl | (simp only [slotArgs]; rfl)) ?_)
  refine wpAny_bind (wpAny_pure (wpAny_bind (Lt.at (wpAny_bind (Lc.at ?_)))))
  show wpAny _ _ (holding [Value.builtin "object.__class__"] (call (.builtin "getset_descriptor.__get__") [.builtin "object.__class__", .ref x, .ref C]) >>= ret) _ _ _
  refine wpAny_bind (wpAny_holding (wpAny_call (class_get (s := ⟨hp, g, dr, tk + 1, os⟩) (ox := ob) (od := od) X I T.hm ?_)))
  refine wpAny_pure ?_
  show wpAny _ _ (handedOut (.ref C)) _ _ _
  rw [handedOut_of (v := .ref C) rfl]
  first
    | exact wpAny_pure (wpAny_pure q)
    | exact wpAny_pure q
    | exact wpAny_pure (wpAny_bind (wpAny_pure (wpAny_pure q)))
theorem kit_exd (T : ExcC K C) : KitX K (.ref x) (.ref C) (fun h => InstAt h x ob C od) where
  ty := fun _ _ _ I => I.type
  it := fun _ _ X _ => by
    obtain ⟨cd, hc, _⟩ := any_some T.hd
    unfold clsIn at hc
    split at hc
    · rename_i ho
      intro A' Q' E' s' k q
      unfold isType loadHead
      exact wpAny_bind (wpAny_loadPart (k _ _ (X _ _ ho)) (wpAny_pure q))
    · cases hc
  ne := fun h tp dd its n sl X htp => by
    obtain ⟨cd, hc, _⟩ := any_some T.hd
    refine Bool.eq_false_iff.mpr fun q => ?_
    have e : C = tp := Value.ref.inj (beq_iff_eq.mp q)
    subst e
    unfold clsIn at hc
    split at hc
    · rename_i ho
      have z := (X _ _ ho).symm.trans htp
      cases z
    · cases hc
  ca := fun X I k => cls_attr T X I k
end

/-! #### the making of an error -/
/-- what __init__ does: the value is kept -/
def spInit (K : PySem.W.Frag) : Sp := fun vs H Q _ => ∃ (a C : Addr) (v : V), vs = [.ref a, v] ∧ OexC K C ∧ PySem.W.findIn K (.ref C) "value" = some none ∧ H a = some (exo a C none) ∧
  ∀ dx, H dx = none → dx ≠ a → Q .non (upd (upd H dx (exd dx [(("value" : Str), v)])) a (exo a C (some dx)))
def tInit (K : PySem.W.Frag) : TS := tSeq (tDrop (tVeI K (tCons (tVar 0) (tCons (tVar 1) tNil)))) (tOst K "value" (tVar 0) (tVar 1))
theorem ok_init {P : Program} {w : World} {K : PySem.W.Frag} {mg : Str → Option Value} {base : Heap} {st : Stmt} {q : Str} {f : Addr} {fd : FuncData} (F : Fun K "__init__" q st f fd) (S : FnScope ["self", "value"] ["self", "value"] (defScope st))
    (hj : ∀ (cdv : Value) (A : Around) (outer : List PySem.Env) (s : Shared) (H : Hp) (E : XK), PSs (cxOf (L2.CX P w) P w K mg base ["self", "value"] q (defScope st) f cdv A outer s H E) (defBody st) (tInit K)) : FnOk P w K mg base (L2.CX P w) 1 f fd ["self", "value"] (spInit K) := by
  refine F.okX S (fun vs H Q E h => ?_) (fun cdv A outer s H vs Q E hr h => ⟨_, hj cdv A outer s H E, ?_⟩)
  · obtain ⟨a, C, v, rfl, _⟩ := h
    rfl
  · obtain ⟨a, C, v, rfl, T, nv, ha, q⟩ := h
    refine ⟨.ref a, rfl, v, rfl, a, C, [v], rfl, by simp, T, ha, v, rfl, .ref a, rfl, a, C, rfl, T, nv, .inl ⟨ha, fun dx hd ne => q dx hd ne⟩⟩
/-- raise c(e) -/
def sRaise (c : Str) (m : M D) : MS := fun ρ S => SR.bindR (m ρ S) ρ fun d S1 => .exc c d ρ S1
theorem js_raise {X : Cx} {W : WX} {c : Str} {C fI : Addr} {fd : FuncData} {e : Expr} {m : M D} {p pos pos2 : Pos} (hc : X.calm = true) (tk : Takes X W) (T : ErrC X.K X.mg c C fI) (tI : PySem.W.typeIn X.K (.ref fI) = some (.type "function"))
    (F1 : FnOk X.prog X.w X.K X.mg X.base (L2.CX X.prog X.w) 1 fI fd ["self", "value"] (spInit X.K)) (hb : Binds X.K fd ["self", "value"] []) (hr : Room 2 X.A) (ha : JE X W e m) (hg : Gl X c := by rfl) (hd : (c == ("__debug__" : Str)) = false := by decide)
    (he : starEach (e :: []) X.env = (false, eval e X.env) :: starEach [] X.env := by rfl) (hpl : (backTo pos (starEach [] X.env)).any (·.1) = false := by rfl) : JS X W (.Raise (some (.Call (.Name c p) [e] [] pos)) none pos2) (sRaise c m) :=
  (ps_raise hc tk (pmk_oex T.ox T.iC tI F1 hr hb .nil passL hg T.gC (pa_cons ha pa_nil he) hd he hpl)).imp fun Dn σ H h => by
    obtain ⟨ι, ρ, S, rs, re, f⟩ := tS_seq (R := fun ι H d v => RD X.K ι H d v) (m := m) (k := fun ρ d S1 => .exc c d ρ S1) h
    refine ⟨ι, ρ, S, rs, re, f.imp fun x H1 ⟨ι1, ρ1, d, S1, rs1, re1, rd1, f1⟩ => ⟨by simp, fun a ha0 => ?_⟩⟩
    refine ⟨a, C, x, rfl, T.ox, T.noV, upd_same, fun dx hdx ne => ⟨rfl, dx, [(("value" : Str), x)], upd_same, by rw [upd_ne ne, upd_same], ?_, ?_⟩⟩
    · rw [upd_ne ne] at hdx; exact hdx
    · have hdx1 : H1 dx = none := by rw [upd_ne ne] at hdx; exact hdx
      have e : upd (del (upd (upd (upd H1 a (exo a C none)) dx (exd dx [(("value" : Str), x)])) a (exo a C (some dx))) a) dx (.xd [(("value" : Str), x)]) = upd H1 dx (.xd [(("value" : Str), x)]) := by
        funext b
        by_cases h1 : b = dx
        · rw [h1, upd_same, upd_same]
        · rw [upd_ne h1, upd_ne h1]
          by_cases h2 : b = a
          · rw [h2, del_same, ha0]
          · rw [del_ne h2, upd_ne h2, upd_ne h1, upd_ne h2]
      rw [e]
      exact f1 ι1 _ σ C dx _ x (Ext.new0 hdx1) (rs1.new0 hdx1) (re1.mono (Ext.new0 hdx1)) T.gC upd_same (by simp [List.lookup]) (rd1.mono (Ext.new0 hdx1))
end MI

set_option Elab.async false
set_option linter.all false
set_option maxRecDepth 100000
set_option maxHeartbeats 4000000
namespace MI
open PySem PySem.Spec PyProof.Rows L2

/-! ### a caught error, in the store from the suite on -/
theorem inv_track {X : Cx} {pins : List (Addr × Obj)} {σ : L2.St} {H : Hp} {s : Shared} {a : Addr} {o : HO} (I : Inv X pins σ H s) (new : ObjOk X.prog X.w (upd H a o) s.heap a o) (na : H a = none) (n0 : X.s_0.heap.get? a = none) (nL : a ≠ X.env.locals)
    (nC : ∀ x c, X.env.cells.lookup x = some c → c ≠ a) (nP : ∀ p ∈ X.pn ++ pins, p.1 ≠ a) : Inv X pins σ (upd H a o) s := by
  have ne : ∀ {b u}, H b = some u → b ≠ a := fun e => ne_of_none e na
  have up : ∀ {b}, b ≠ a → H b = none → upd H a o b = none := fun h n => by rw [upd_ne h]; exact n
  have us : ∀ {b u}, H b = some u → upd H a o b = some u := fun e => by rw [upd_ne (ne e)]; exact e
  have B := I.base
  exact { ok := I.ok, os := I.os, bare := I.bare, loc := I.loc, cell := I.cell, len := I.len
          free := up (Ne.symm nL) I.free
          freeC := fun x c e => up (nC x c e) (I.freeC x c e)
          pin := fun p hp => let ⟨z1, z2, z3, z4, z5⟩ := I.pin p hp; ⟨z1, up (nP p hp) z2, z3, z4, z5⟩
          hok := I.hok.laidN (fun _ _ e => e) na new
          base := { keep := B.keep, slot := B.slot, there := B.there
                    free := fun b u e n hx => up (fun z => by rw [z, n0] at e; cases e) (B.free b u e n hx)
                    tups := fun b xs e => us (B.tups b xs e)
                    frzs := fun b u xs e => us (B.frzs b u xs e)
                    tbls := fun b ps e => let ⟨m, q⟩ := B.tbls b ps e; ⟨m, us q⟩ } }
theorem exo_new {P : Program} {w : World} {H : Hp} {h : Heap} {a C dd : Addr} {oe : Obj} {vs : Array Value} (he : h.get? a = some oe) (hz : Zc (.ref C) (some dd) oe) (hd : oe.data = .fields vs) : ObjOk P w H h a (EXO C dd a) :=
  ⟨⟨oe, vs, he, hz.1, hz.2, hd⟩, ⟨oe, he⟩, fun h1 h2 ⟨oe', vs', e1, e2, e3, e4⟩ k => ⟨oe', vs', k _ e1, e2, e3, e4⟩⟩
/-- what is wanted of an error of a try's body: slot i is the clause's name -/
def wHeld (K : PySem.W.Frag) (c : Value) (i : Nat) (ts : TS) (Wout : WX) (D : Ends) : WX := fun cls d σ H =>
  ∃ C dd b, cls = .ref C ∧ d = some dd ∧ PySem.W.exmOne K (.ref C) c = some b ∧
    (b = true → ∀ a, H a = none → ts { nx := fun σ' H' => D.nx (σ'.set i none) H', rt := D.rt, bk := fun σ' H' => D.bk (σ'.set i none) H', ct := fun σ' H' => D.ct (σ'.set i none) H' } (σ.set i (some (.ref a))) (upd H a (EXO C dd a))) ∧
    (b = false → Wout (.ref C) (some dd) σ H)
theorem inv_mark {X : Cx} {pins : List (Addr × Obj)} {σ : L2.St} {H : Hp} {s : Shared} {a : Addr} (I : Inv X pins σ H s) : Inv (X.suite a (X.pn ++ pins)) [] σ H s :=
  { ok := I.ok.suite _ _, os := I.os, bare := I.bare, base := I.base, loc := I.loc, cell := I.cell, free := I.free, freeC := I.freeC, hok := I.hok, len := I.len
    pin := fun p hp => I.pin p (by rw [List.append_nil] at hp; exact hp) }
theorem inv_unmark {X : Cx} {pins pn' : List (Addr × Obj)} {σ : L2.St} {H : Hp} {s : Shared} {a : Addr} (I : Inv (X.suite a (X.pn ++ pins)) pn' σ H s) (ok : X.Ok) : Inv X pins σ H s :=
  { ok := ok, os := I.os, bare := I.bare, base := I.base, loc := I.loc, cell := I.cell, free := I.free, freeC := I.freeC, hok := I.hok, len := I.len
    pin := fun p hp => I.pin p (List.mem_append_left _ hp) }
section
variable {X : Cx} {x n : Str} {c : Value} {i : Nat} {body suite : List Stmt} {b₀ : Stmt} {np pos pos' : Pos} {tb : WX → TS} {ts : TS} {Wout : WX}
theorem ps_try_held (hs : X.stack = X.env :: X.outer) (hf : X.env.frame = some X.env.locals) (hex : X.ex = []) (hN : X.N.Nodup) (hi : X.N[i]? = some n) (hln : X.env.kindOf n = some .local) (hc : Names X x c) (tk : Takes X Wout)
    (hb : ∀ (W : WX) (pn : List (Addr × Obj)) (xe : Value → Shared → Prop), Takes (X.tr pn xe) W → PassesOwn (model X.prog X.w) X.A X.env xe → PSs (X.tr pn xe) body (tb W))
    (hsu : ∀ (a : Addr) (pn : List (Addr × Obj)), PSs (X.suite a pn) (b₀ :: suite) ts) :
    PS X (.Try body [.ExceptHandler (some (.Name x np)) (some n) (b₀ :: suite) pos'] [] [] pos) (fun D σ H => tb (wHeld X.K c i ts Wout D) D σ H) := by
  refine ⟨fun pins s σ H D I h => ?_⟩
  have okX := I.ok
  have frX : X.A.frames = some (X.env :: X.outer) := by rw [okX.frames, hs]
  refine wpAny_Try_except ?_
  refine wpAny_mono ((hb (wHeld X.K c i ts Wout D) (X.pn ++ pins) (fun e s₁ => wpAny (model X.prog X.w) X.A (noteFrame e X.env) (fun _ s₂ => wpAny (model X.prog X.w) X.A (setFlight e none) (fun _ s₃ =>
    wpAny (model X.prog X.w) X.A (handleBy e X.env [.ExceptHandler (some (.Name x np)) (some n) (b₀ :: suite) pos']) (SP X pins D) X.xe s₃) X.xe s₂) X.xe s₁) (fun u s' air => ?_) PassesOwn.looking).run [] s σ H D (I.toTry _) h) (fun fl s1 hsp => ?_) (fun e s1 he => he)
  · obtain ⟨a, B, sI, pq, σ', H', cls, d, rfl, J0, nb, up0, sky, na, os, ag, C, dd, b, rfl, rfl, hb1, hyes, hno⟩ := air
    have J : Inv X pins σ' H' sI := J0.ofTry okX
    rw [hs] at sky
    show wpAny (model X.prog X.w) X.A (noteFrame (.ref a) X.env) _ _ _
    refine Sky.land Zc.steady frX hf sky fun hA flA upA => ?_
    have JA : Inv X pins σ' H' { s' with heap := hA } := J.landed nb flA.1 (up0.trans upA) os ag
    obtain ⟨oA, vA, eA, zA, dA⟩ := flA.there
    have off : a ∉ frs (X.env :: X.outer) := fun hm => by
      obtain ⟨_, o2, e2, hnf⟩ := flA.2.2.1.mem hm
      rw [eA] at e2; cases e2
      exact hnf _ dA
    have nL : a ≠ X.env.locals := fun z => off (List.mem_filterMap.mpr ⟨X.env, List.mem_cons_self, by rw [hf, z]⟩)
    -- it was not there ahead of the body's end
    have nI : sI.heap.get? a = none := by
      cases q : sI.heap.get? a with
      | none => rfl
      | some o =>
        have z := nb a o q (by rw [hs]; exact off)
        have z2 := flA.2.1
        rw [z] at z2; cases z2
    have n0 : X.s_0.heap.get? a = none := by
      cases q : X.s_0.heap.get? a with
      | none => rfl
      | some o =>
        obtain ⟨o', e'⟩ := J.base.there a o q (by rw [hex]; simp)
        rw [nI] at e'; cases e'
    have nC : ∀ y k, X.env.cells.lookup y = some k → k ≠ a := fun y k e z => by
      obtain ⟨v, oc, q, _⟩ := J.cell y k e
      rw [z, nI] at q; cases q
    have nP : ∀ p ∈ X.pn ++ pins, p.1 ≠ a := fun p hp z => by
      have q := (J.pin p hp).1
      rw [z, nI] at q; cases q
    have nF : a ∉ X.fs := fun hm => by
      obtain ⟨e, he, q⟩ := List.mem_filterMap.mp hm
      exact off (List.mem_filterMap.mpr ⟨e, List.mem_cons_of_mem _ he, q⟩)
    have SA := JA.suite eA dA na nL nF
    refine wpAny_handleBy_cons (codeAny_handlers_test ?_) (by intro q; cases q)
    have look : PySem.W.Looks (model X.prog X.w) hA (typeOf (.ref a)) (.ref C) := fun A Q E s k q => wpAny_typeOf_ref (k _ _ eA) (by rw [zA.1]; exact q)
    have named : ∀ {Q : Value → Shared → Prop} {E : Value → Shared → Prop}, Q c { s' with heap := hA } → wpAny (model X.prog X.w) (X.A.mark (some (.ref a))) (eval (.Name x np) X.env) Q E { s' with heap := hA } := fun {Q E} q => by
      obtain ⟨gl, hdb, hm | ⟨hm, hv, hnn⟩⟩ := hc
      · exact ld_glob (X := X.suite a ((a, oA) :: (X.pn ++ pins))) SA gl hm q hdb
      · exact ld_blt (X := X.suite a ((a, oA) :: (X.pn ++ pins))) SA gl hm hv q hnn hdb
    refine named ((PySem.W.exm_one (M := model X.prog X.w) JA.kIn look hb1).here ?_)
    cases b with
    | true =>
      refine codeAny_handlers_suite_as ?_
      refine HandSPX.lands_againZ flA fun hB flB upB => ?_
      have JB : Inv X pins σ' H' { s' with heap := hB } := J.landed nb flB.1 ((up0.trans upA).trans upB) os ag
      obtain ⟨oB, vB, eB, zB, dB⟩ := flB.there
      have JT := inv_mark (a := a) (inv_track (o := EXO C dd a) JB (exo_new eB zB dB) na n0 nL nC nP)
      refine store_ok (X := X.suite a (X.pn ++ pins)) (v := .ref a) JT hN hi (.inl hln) rfl (fun s5 S5 => ?_) (.inr hln)
      refine wpAny_mono ((hsu a (X.pn ++ pins)).run [] s5 _ _ _ S5 (hyes rfl a na)) (fun fl s6 hsp => ?_) (fun _ _ z => False.elim z)
      have gone : ∀ {σ6 : L2.St} {H6 : Hp} {Q : Shared → Prop}, Inv (X.suite a (X.pn ++ pins)) [] σ6 H6 s6 → (∀ s7, Inv X pins (σ6.set i none) H6 s7 → Q s7) →
          wpAny (model X.prog X.w) X.A (do bindName X.env n .none; unbindBehindTheSuite X.env n pos') (fun _ s7 => Q s7) X.xe s6 := fun {σ6 H6 Q} S6 hq => gone_ok (inv_unmark S6 okX) hN hi hln hq
      cases fl with
      | next => obtain ⟨σ6, H6, S6, q6⟩ := hsp; exact gone S6 fun s7 J7 => ⟨_, _, J7, q6⟩
      | brk => obtain ⟨σ6, H6, S6, q6⟩ := hsp; exact gone S6 fun s7 J7 => ⟨_, _, J7, q6⟩
      | cont => obtain ⟨σ6, H6, S6, q6⟩ := hsp; exact gone S6 fun s7 J7 => ⟨_, _, J7, q6⟩
      | ret u => obtain ⟨v6, σ6, H6, S6, r6, q6⟩ := hsp; exact gone S6 fun s7 J7 => ⟨_, _, _, J7, r6, q6⟩
    | false =>
      show wpAny _ X.A (handleBy (.ref a) X.env []) _ _ _
      refine wpAny_handleBy_nil ?_
      obtain ⟨_, _, _, oe, vs, T, oT, _, he, hz, hd, h1, hr⟩ := id flA
      unfold PySem.passOn
      refine wpAny_bind (wpAny_field he hd h1 ?_)
      rw [if_neg (show ¬ ((Value.ref T == Value.none) = true) from by simp)]
      have thru : wpAny (model X.prog X.w) X.A (setFlight (.ref a) X.env.frame) (fun _ s4 => wpAny (model X.prog X.w) X.A (throw (.ref a) : Sem Flow) (SP X pins D) X.xe s4) X.xe { s' with heap := hA } := by
        rw [hf]
        refine HandSPX.setFlight_upZ flA fun hB hh upB => wpAny_throw (tk _ _ ?_)
        exact ⟨a, B, sI, pins, σ', H', .ref C, some dd, rfl, J, nb, (up0.trans upA).trans upB, .inr (.inr (by rw [hs]; exact hh)), na, os, ag, hno rfl⟩
      first
        | exact wpAny_bind (wpAny_pure (wpAny_bind thru))
        | exact wpAny_bind thru
  · cases fl with
    | next => obtain ⟨σ', H', J', q⟩ := hsp; exact wpAny_execs_nil ⟨σ', H', J'.ofTry okX, q⟩
    | brk => obtain ⟨σ', H', J', q⟩ := hsp; exact ⟨σ', H', J'.ofTry okX, q⟩
    | cont => obtain ⟨σ', H', J', q⟩ := hsp; exact ⟨σ', H', J'.ofTry okX, q⟩
    | ret u => obtain ⟨v, σ', H', J', r, q⟩ := hsp; exact ⟨v, σ', H', J'.ofTry okX, r, q⟩
end
/-- try: .. except C as n: ..; what is caught goes into the store -/
def sTry (cat : Str → Option Bool) (i : Nat) (b s : MS) : MS := fun ρ S => match b ρ S with
  | .exc c v ρ1 S1 => match cat c with
    | some true => match s (ρ1.set i (some (.ref S1.length))) (S1 ++ [.exc c v]) with
      | .next ρ2 S2 => .next (ρ2.set i none) S2
      | .brk ρ2 S2 => .brk (ρ2.set i none) S2
      | .cont ρ2 S2 => .cont (ρ2.set i none) S2
      | .exc _ _ _ _ => .no
      | r => r
    | some false => .exc c v ρ1 S1
    | none => .no
  | r => r
theorem js_try {X : Cx} {W : WX} {x n : Str} {c : Value} (i : Nat) {body suite : List Stmt} {b₀ : Stmt} {np pos pos' : Pos} {mb ms : MS} {cat : Str → Option Bool} (hs : X.stack = X.env :: X.outer) (hf : X.env.frame = some X.env.locals) (hex : X.ex = []) (hN : X.N.Nodup) (hi : X.N[i]? = some n) (hln : X.env.kindOf n = some .local) (hc : Names X x c) (tk : Takes X W)
    (hcat : ∀ e C b, X.mg e = some (.ref C) → cat e = some b → PySem.W.exmOne X.K (.ref C) c = some b)
    (hb : ∀ (W : WX) (pn : List (Addr × Obj)) (xe : Value → Shared → Prop), Takes (X.tr pn xe) W → PassesOwn (model X.prog X.w) X.A X.env xe → JSs (X.tr pn xe) W body mb)
    (hsu : ∀ (a : Addr) (pn : List (Addr × Obj)), JSs (X.suite a pn) noW (b₀ :: suite) ms) :
    JS X W (.Try body [.ExceptHandler (some (.Name x np)) (some n) (b₀ :: suite) pos'] [] [] pos) (sTry cat i mb ms) :=
  (ps_try_held (tb := fun W => tS X.K X.mg W mb) (ts := tS X.K X.mg noW ms) hs hf hex hN hi hln hc tk hb hsu).imp fun Dn σ H ⟨ι, ρ, S, rs, re, f⟩ => by
    refine ⟨ι, ρ, S, rs, re, ?_⟩
    unfold sTry at f
    cases h : mb ρ S with
    | next ρ' S' => rw [h] at f; exact f
    | ret d S' => rw [h] at f; exact f
    | brk ρ' S' => rw [h] at f; exact f
    | cont ρ' S' => rw [h] at f; exact f
    | no => rw [h] at f; exact f
    | exc e v ρ1 S1 =>
      rw [h] at f
      intro ι' H' σ' C dd fs u x' rs' re' e1 e2 e3 rd
      cases hct : cat e with
      | none => simp only [hct] at f; exact f.elim
      | some b =>
        refine ⟨C, dd, b, rfl, rfl, hcat e C b e1 hct, fun hb => ?_, fun hb => ?_⟩
        · subst hb
          simp only [hct] at f
          intro a ha
          have xa := x'.trans (Ext.new1 (o := EXO C dd a) ha)
          have rsa : RS X.K X.mg (ι' ++ [a]) (S1 ++ [.exc e v]) (upd H' a (EXO C dd a)) := rs'.push ha ⟨C, dd, fs, u, e1, upd_same, by rw [upd_ne (ne_of_none e2 ha)]; exact e2, e3, rd.mono (Ext.new1 ha)⟩
          have rea : RE X.K (ι' ++ [a]) (upd H' a (EXO C dd a)) (ρ1.set i (some (.ref S1.length))) (σ'.set i (some (.ref a))) := (re'.mono (Ext.new1 ha)).set i (.ref (by rw [rs'.len, List.getElem?_append_right (Nat.le_refl _), Nat.sub_self]; rfl))
          refine ⟨ι' ++ [a], _, _, rsa, rea, ?_⟩
          cases hs2 : ms (ρ1.set i (some (.ref S1.length))) (S1 ++ [.exc e v]) with
          | next ρ2 S2 =>
            simp only [hs2] at f
            exact fun ι2 H2 σ2 y r1 r2 => f ι2 H2 _ (xa.trans y) r1 (r2.clear i)
          | brk ρ2 S2 =>
            simp only [hs2] at f
            exact fun ι2 H2 σ2 y r1 r2 => f ι2 H2 _ (xa.trans y) r1 (r2.clear i)
          | cont ρ2 S2 =>
            simp only [hs2] at f
            exact fun ι2 H2 σ2 y r1 r2 => f ι2 H2 _ (xa.trans y) r1 (r2.clear i)
          | ret d S2 =>
            simp only [hs2] at f
            exact fun ι2 H2 v2 y r1 r2 => f ι2 H2 v2 (xa.trans y) r1 r2
          | exc c d ρ2 S2 => simp only [hs2] at f; exact f.elim
          | no => simp only [hs2] at f; exact f.elim
        · subst hb
          simp only [hct] at f
          exact f ι' H' σ' C dd fs u x' rs' re' e1 e2 e3 rd
end MI

set_option Elab.async false
set_option linter.all false
set_option maxRecDepth 100000
set_option maxHeartbeats 4000000
namespace MI
open PySem PySem.Spec PyProof.Rows L2

/-! ### e.value, isinstance(e, C) -/
def excAt (d : D) (S : Store) : Option (Str × D) := match d with
  | .ref i => match S[i]? with
    | some (.exc c v) => some (c, v)
    | _ => none
  | _ => none
theorem excAt_v {K : PySem.W.Frag} {mg : Str → Option Value} {ι : List Addr} {S : Store} {H : Hp} {d : D} {x : V} {c : Str} {v : D} (rs : RS K mg ι S H) (rd : RD K ι H d x) (h : excAt d S = some (c, v)) :
    ∃ a C dd fs u, x = .ref a ∧ mg c = some (.ref C) ∧ H a = some (EXO C dd a) ∧ H dd = some (.xd fs) ∧ fs.lookup ("value" : Str) = some u ∧ RD K ι H v u := by
  unfold excAt at h
  split at h
  · split at h
    · rename_i hx
      cases h
      obtain ⟨a, rfl, ha⟩ := rd.ref_inv
      obtain ⟨C, dd, fs, u, e1, e2, e3, e4, r⟩ := rs.get' hx ha
      exact ⟨a, C, dd, fs, u, rfl, e1, e2, e3, e4, r⟩
    · cases h
  · cases h
theorem inst_of {X : Cx} {pins : List (Addr × Obj)} {σ : L2.St} {H : Hp} {s : Shared} {a C dd : Addr} {fs : List (Str × V)} (I : Inv X pins σ H s) (ha : H a = some (EXO C dd a)) (hd : H dd = some (.xd fs)) :
    ∃ oe od, PySem.W.InstAt s.heap a oe C (some od) ∧ ∃ mA : Str → Option Value, (∀ f, PySem.W.lookIn f od = some (mA f)) ∧ ∀ f, RelO (fs.lookup f) (mA f) := by
  have x1 : ObjOk X.prog X.w H s.heap a (EXO C dd a) := I.hok a _ ha
  obtain ⟨⟨oe, vs, e1, e2, e3, e4⟩, _, _⟩ := x1
  have x2 : ObjOk X.prog X.w H s.heap dd (.xd fs) := I.hok dd _ hd
  obtain ⟨mA, hns, hr⟩ := x2
  obtain ⟨od, ho, hl⟩ := lookIn_ns hns
  exact ⟨oe, od, ⟨e1, e2, by unfold PySem.W.notCls; rw [e4] <;> rfl, by rw [e3]; exact ho⟩, mA, hl, hr⟩
/-- the own error classes -/
structure Errs (K : PySem.W.Frag) (mg : Str → Option Value) (names : List Str) : Prop where
  all : ∀ c C, c ∈ names → mg c = some (.ref C) → ∃ fI, ErrC K mg c C fI
def mVal (names : List Str) (m : M D) : M D := fun ρ S => (m ρ S).bind fun d S1 => match excAt d S1 with
  | some (c, v) => if c ∈ names then .ok v S1 else .no
  | none => .no
section
variable {X : Cx} {W : WX} {e : Expr} {m : M D} {pos p1 p2 : Pos} {names : List Str}
theorem j_val (T : Errs X.K X.mg names) (he : JE X W e m) (hb : attributeBase e "value" X.env (eval e X.env) = eval e X.env := by rfl) : JE X W (.Attribute e "value" pos) (mVal names m) := by
  refine ⟨fun pins s σ H Q I want => ?_⟩
  obtain ⟨ι, ρ, S, rs, re, f⟩ := tG_seq (R := fun ι H d v => RD X.K ι H d v) (m := m) (k := fun ρ d S1 => match excAt d S1 with
    | some (c, v) => if c ∈ names then .ok v S1 else .no
    | none => .no) want
  refine attr_of hb (thn (he.run pins s σ H _ I ⟨ι, ρ, S, rs, re, f⟩) fun u s1 ⟨x, H1, I1, rx, ι1, ρ1, d, S1, rs1, re1, rd1, f1⟩ => ?_)
  cases h : excAt d S1 with
  | none => rw [h] at f1; exact f1.elim
  | some cv =>
    obtain ⟨c, v⟩ := cv
    rw [h] at f1
    dsimp only at f1
    split at f1
    · rename_i hc
      obtain ⟨a, C, dd, fs, y, rfl, e1, e2, e3, e4, r⟩ := excAt_v rs1 rd1 h
      obtain rfl : u = Value.ref a := rx
      obtain ⟨fI, TC⟩ := T.all c C hc e1
      obtain ⟨oe, od, J, mA, hl, hr⟩ := inst_of I1 e2 e3
      obtain ⟨uv, hu, ru⟩ := RelO.some_of (v := y) (o := mA "value") (by rw [← e4]; exact hr "value")
      exact HandSPX.exc_get I1.kIn J TC.ex.hg TC.ex.hk TC.ex.hs (PySem.W.findObj_own TC.ex.hd TC.noV rfl (by rw [hl, hu])) (handed_of ru) ⟨y, H1, I1.tok _, ru, f1 ι1 H1 y (Ext.refl _ _) rs1 r⟩
    · exact f1.elim
/-- isinstance(e, C), C told by its name; sub: is the first one's class below it -/
def mIsE (names : List Str) (sub : Str → Bool) (m : M D) : M D := fun ρ S => (m ρ S).bind fun d S1 => match excAt d S1 with
  | some (c, _) => if c ∈ names then .ok (.bl (sub c)) S1 else .no
  | none => .no
theorem j_isE {cls : Str} {cv : V} {u : Value} {sub : Str → Bool} (T : Errs X.K X.mg names) (hm : X.mg "isinstance" = none) (ha : JE X W e m) (hcls : PE X (.Name cls p2) (tC cv)) (hcu : ∀ w, RelV cv w → w = u)
    (hk : ∀ c C, c ∈ names → X.mg c = some (.ref C) → PySem.W.kitOne X.K (.ref C) u = some (sub c)) (hg : Gl X "isinstance" := by rfl) (hb : bootBuiltins "isinstance" = some (.builtin "isinstance") := by decide +kernel)
    (he : starEach (e :: [.Name cls p2]) X.env = (false, eval e X.env) :: starEach [.Name cls p2] X.env := by rfl) (he2 : starEach [.Name cls p2] X.env = (false, eval (.Name cls p2) X.env) :: starEach [] X.env := by rfl) (hpl : (backTo pos (starEach [.Name cls p2] X.env)).any (·.1) = false := by rfl) :
    JE X W (.Call (.Name "isinstance" p1) [e, .Name cls p2] [] pos) (mIsE names sub m) := by
  have step : CallR X (.builtin "isinstance") (fun xs H Q => ∃ ι S d x c v, xs = [x, cv] ∧ RS X.K X.mg ι S H ∧ RD X.K ι H d x ∧ excAt d S = some (c, v) ∧ c ∈ names ∧ Q (.bl (sub c)) H) := by
    intro pins s σ H xs us Q I r want
    obtain ⟨ι, S, d, x, c, v, rfl, rs, rd, h, hc, q⟩ := want
    obtain ⟨u1, u2, rfl, r1, r2⟩ := vals2 r
    have e2 := hcu _ r2
    subst e2
    obtain ⟨a, C, dd, fs, y, rfl, e1, e2, e3, e4, _⟩ := excAt_v rs rd h
    obtain rfl : u1 = Value.ref a := r1
    obtain ⟨fI, TC⟩ := T.all c C hc e1
    obtain ⟨oe, od, J, _⟩ := inst_of I e2 e3
    exact PySem.W.kia_one (kit_exd TC.ex) I.kIn J (hk c C hc e1) (fun z => nomatch z) fun tk => ⟨.bl _, H, I.kept (t' := tk) fun _ _ z => z, rfl, q⟩
  refine (pe_callB step hg hm hb (pa_cons ha (pa_cons hcls pa_nil he2) he) (by decide) (by decide) he hpl).imp fun σ H Q h => ?_
  obtain ⟨ι, ρ, S, rs, re, f⟩ := tG_seq (R := fun ι H d v => RD X.K ι H d v) (m := m) (k := fun ρ d S1 => match excAt d S1 with
    | some (c, _) => if c ∈ names then Res.ok (D.bl (sub c)) S1 else .no
    | none => .no) h
  refine ⟨ι, ρ, S, rs, re, f.imp fun x H1 ⟨ι1, ρ1, d, S1, rs1, re1, rd1, f1⟩ => ?_⟩
  cases h : excAt d S1 with
  | none => rw [h] at f1; exact f1.elim
  | some cv2 =>
    obtain ⟨c, v⟩ := cv2
    rw [h] at f1
    dsimp only at f1
    split at f1
    · rename_i hc
      exact ⟨ι1, S1, d, x, c, v, rfl, rs1, rd1, h, hc, f1 ι1 H1 _ (Ext.refl _ _) rs1 (.bl _)⟩
    · exact f1.elim
end

/-! ### repr -/
def flatP : D → Option PyData
  | .non => some .none
  | .bl b => some (.bool b)
  | .int i => some (.int i)
  | .str x => some (.str x)
  | _ => none
def keyP : Key → PyData
  | .inl i => .int i
  | .inr x => .str x
def flatKvs : List (Key × D) → Option (List (PyData × PyData))
  | [] => some []
  | (k, d) :: r => match flatP d, flatKvs r with
    | some p, some ps => some ((keyP k, p) :: ps)
    | _, _ => none
/-- a dict of flat things -/
def flatD (S : Store) (d : D) : Option PyData := match d with
  | .ref i => match S[i]? with
    | some (.dct kvs) => (flatKvs kvs).map .dict
    | _ => none
  | _ => none
def shows (p : PyData) : Bool := p.showable && decide (p.shown.length ≤ 16777216) && decide (p.depth ≤ 60)
def reprP (S : Store) (d : D) : Option PyData := match toPy S fuelD d with
  | some p => some p
  | none => flatD S d
def gRepr (xs : List D) (S : Store) : Res D := match xs with
  | [d] => match reprP S d with
    | some p => if shows p = true then .ok (.str p.shown) S else .no
    | none => .no
  | _ => .no
theorem calm_repr : CalmN gRepr := fun ds S c v S' h => by
  unfold gRepr at h
  split at h
  · split at h
    · split at h <;> cases h
    · cases h
  · cases h
theorem toPy_noDict {S : Store} : (∀ n d p, toPy S n d = some p → p.hasDict = false) ∧ (∀ n ds ps, toPys S n ds = some ps → PyData.hasDictAll ps = false) := by
  suffices h : ∀ n, (∀ d p, toPy S n d = some p → p.hasDict = false) ∧ (∀ ds ps, toPys S n ds = some ps → PyData.hasDictAll ps = false) from ⟨fun n => (h n).1, fun n => (h n).2⟩
  intro n
  induction n with
  | zero => exact ⟨fun d p h => by simp [toPy] at h, fun d p h => by simp [toPys] at h⟩
  | succ n ih =>
    refine ⟨fun d p h => ?_, fun ds ps h => ?_⟩
    · cases d with
      | tup xs =>
        simp only [toPy, Option.map_eq_some_iff] at h
        obtain ⟨ps, h1, rfl⟩ := h
        simp only [PyData.hasDict]; exact ih.2 _ _ h1
      | fro xs =>
        simp only [toPy, Option.map_eq_some_iff] at h
        obtain ⟨ps, h1, rfl⟩ := h
        simp only [PyData.hasDict]; exact ih.2 _ _ h1
      | ref i =>
        simp only [toPy] at h
        split at h
        · simp only [Option.map_eq_some_iff] at h
          obtain ⟨ps, h1, rfl⟩ := h
          simp only [PyData.hasDict]; exact ih.2 _ _ h1
        · cases h
      | _ => simp only [toPy, Option.some.injEq] at h; subst h; simp only [PyData.hasDict]
    · cases ds with
      | nil => simp only [toPys, Option.some.injEq] at h; subst h; simp only [PyData.hasDictAll]
      | cons x xs =>
        simp only [toPys] at h
        split at h
        · rename_i p ps' h1 h2
          cases h
          simp only [PyData.hasDictAll, ih.1 _ _ h1, ih.2 _ _ h2, Bool.or_false]
        · cases h
theorem flatP_reads {K : PySem.W.Frag} {ι : List Addr} {H : Hp} {h : Heap} {d : D} {v : V} {u : Value} {p : PyData} (rd : RD K ι H d v) (r : RelV v u) (e : flatP d = some p) : Reads h u p [] := by
  cases d with
  | non => simp only [flatP, Option.some.injEq] at e; subst e; rw [rd.non_inv] at r; cases r; exact .none
  | bl b => simp only [flatP, Option.some.injEq] at e; subst e; rw [rd.bl_inv] at r; cases r; exact .bool b
  | int i => simp only [flatP, Option.some.injEq] at e; subst e; rw [rd.int_inv] at r; obtain ⟨t, rfl⟩ := r; exact .int i t
  | str x => simp only [flatP, Option.some.injEq] at e; subst e; rw [rd.str_inv] at r; obtain ⟨t, rfl⟩ := r; exact .str x t
  | _ => simp [flatP] at e
theorem keyP_reads {h : Heap} {k : Key} {u : Value} (e : keyIs k u = true) : Reads h u (keyP k) [] := by
  rcases keyIs_shape e with ⟨i, t, rfl, rfl⟩ | ⟨x, t, rfl, rfl⟩
  · exact .int i t
  · exact .str x t
theorem flat_all {P : Program} {w : World} {K : PySem.W.Frag} {ι : List Addr} {H : Hp} {h : Heap} : ∀ {kvs : List (Key × D)} {ws : List (Key × V)} {vs : List (Key × Value)} {es : List DictEntry} {ps : List (PyData × PyData)},
    RKV K ι H kvs ws → KV ws vs → Pairs (mixKind P w) es vs → flatKvs kvs = some ps → ReadsAll h (es.map (·.key)) (ps.map (·.1)) [] ∧ ReadsAll h (es.map (·.val)) (ps.map (·.2)) []
  | [], _, _, _, ps, r1, r2, r3, e => by
    cases r1; cases r2; cases r3
    simp only [flatKvs, Option.some.injEq] at e
    subst e
    exact ⟨.nil, .nil⟩
  | (k, d) :: kvs, _, _, _, ps, r1, r2, r3, e => by
    cases r1 with
    | cons a1 t1 =>
      cases r2 with
      | cons a2 t2 =>
        cases r3 with
        | cons b1 b2 t3 =>
          simp only [flatKvs] at e
          split at e
          · rename_i p ps' h1 h2
            cases e
            obtain ⟨q1, q2⟩ := flat_all (h := h) t1 t2 t3 h2
            obtain ⟨c1, c2⟩ := a1
            obtain ⟨d1, d2⟩ := a2
            dsimp only at c1 c2 d1 d2 b1 b2
            have w1 := keyP_reads (h := h) b1
            have w2 := flatP_reads (h := h) c2 d2 h1
            rw [← b2] at w2
            rw [← d1, ← c1] at w1
            exact ⟨.cons w1 q1, .cons w2 q2⟩
          · cases e
section
variable {X : Cx}
theorem c_repr (hu : X.A.units + 64 < cLine) (hG : X.A.guards = some []) : CallR X (.builtin "repr") (rN X.K X.mg gRepr) := by
  intro pins s σ H xs us Q I r want
  obtain ⟨ι, S, ds, rs, rd, f⟩ := want
  unfold gRepr at f
  split at f
  · rename_i d
    split at f
    · rename_i p hp
      split at f
      · rename_i hs
        unfold shows at hs
        simp only [Bool.and_eq_true, decide_eq_true_eq] at hs
        obtain ⟨⟨s1, s2⟩, s3⟩ := hs
        obtain ⟨v, rfl, r1⟩ := rd.one_inv
        obtain ⟨u, rfl, ru⟩ := vals1 r
        have q : ∀ H', Ext ι H ι H' → RS X.K X.mg ι S H' → Q (.str p.shown) H' := fun H' x rs' => f ι H' _ x rs' (.str _)
        have q := q H (Ext.refl _ _) rs
        unfold reprP at hp
        have atoms : ∀ {as : List Addr}, Reads s.heap u p as → (p.hasDict = true → sysModules ∉ as) → wpAny (model X.prog X.w) X.A (call (.builtin "repr") [u]) (EP X pins σ Q) X.xe s := fun {as} rd hno => by
          cases rd with
          | none => exact PySem.P.repr_of_none ⟨.str "None", H, I.tok _, ⟨_, rfl⟩, by simpa [PyData.shown] using q⟩
          | bool b => exact PySem.P.repr_of_bool ⟨.str (if b then "True" else "False"), H, I.tok _, ⟨_, rfl⟩, by simpa [PyData.shown] using q⟩
          | int i t => exact PySem.P.repr_of_int (by simpa [PyData.showable] using s1) ⟨.str (toString i), H, I.tok _, ⟨_, rfl⟩, by simpa [PyData.shown] using q⟩
          | str x t => exact PySem.P.repr_of_str ⟨.str (reprText x), H, I.tok _, ⟨_, rfl⟩, by simpa [PyData.shown] using q⟩ (by rw [sizeLine_eq]; simpa [PyData.shown] using s2)
          | list a b c d => exact repr_of_reads' (.list a b c d) s1 hno hG (by omega) (fun _ _ e => e) (fun h' tu tk k => ⟨.str (PyData.shown _), H, I.kept k, ⟨_, rfl⟩, q⟩) (by rw [sizeLine_eq]; exact s2)
          | tuple a b c d => exact repr_of_reads' (.tuple a b c d) s1 hno hG (by omega) (fun _ _ e => e) (fun h' tu tk k => ⟨.str (PyData.shown _), H, I.kept k, ⟨_, rfl⟩, q⟩) (by rw [sizeLine_eq]; exact s2)
          | dict a b c d e => exact repr_of_reads' (.dict a b c d e) s1 hno hG (by omega) (fun _ _ e => e) (fun h' tu tk k => ⟨.str (PyData.shown _), H, I.kept k, ⟨_, rfl⟩, q⟩) (by rw [sizeLine_eq]; exact s2)
        cases ht : toPy S fuelD d with
        | some p' =>
          rw [ht] at hp
          cases hp
          obtain ⟨as, hrd⟩ := Dp.reads I p v u (toPy_dp rs _ _ _ _ r1 ht) ru
          exact atoms hrd fun z => by rw [toPy_noDict.1 _ _ _ ht] at z; cases z
        | none =>
          rw [ht] at hp
          dsimp only at hp
          unfold flatD at hp
          split at hp
          · split at hp
            · rename_i i _ kvs hx
              obtain ⟨ps, h1, rfl⟩ := Option.map_eq_some_iff.mp hp
              obtain ⟨a, rfl, ha⟩ := r1.ref_inv
              obtain ⟨ws, e1, r2⟩ := rs.get' hx ha
              cases ru
              obtain ⟨_, ns, vs, rk, o, es, ep, g1, g2, g3, _, g5, _⟩ := dk_of I.hok e1
              obtain ⟨q1, q2⟩ := flat_all (P := X.prog) (w := X.w) (h := s.heap) r2 rk g5 h1
              exact atoms (.dict g1 g2.1 g3 q1 q2) fun _ hm => by
                rcases List.mem_cons.mp hm with z | z
                · rw [← z] at ns; exact absurd ((beq_self_eq_true _).symm.trans ns) (by decide)
                · cases z
            · cases hp
          · cases hp
      · exact f.elim
    · exact f.elim
  · exact f.elim
end
end MI

set_option Elab.async false
set_option linter.all false
set_option maxRecDepth 100000
set_option maxHeartbeats 4000000
namespace MI
open PySem PySem.Spec PyProof.Rows L2

/-! ### dicts written out, their keys texts -/
def putD {β : Type} (kvs : List (Key × β)) (k : Key) (v : β) : List (Key × β) :=
  if (kvs.any fun kv => decide (kv.1 = k)) = true then kvs.map (fun kv => if kv.1 = k then (kv.1, v) else kv) else kvs ++ [(k, v)]
def mergeD {β : Type} (kvs more : List (Key × β)) : List (Key × β) := more.foldl (fun acc kv => putD acc kv.1 kv.2) kvs
theorem RKV.put {K : PySem.W.Frag} {ι : List Addr} {H : Hp} {d : D} {v : V} (k : Key) (q : RD K ι H d v) {l : List (Key × D)} {l' : List (Key × V)} (r : RKV K ι H l l') : RKV K ι H (putD l k d) (putK l' k v) := by
  have any : (l.any fun kv => decide (kv.1 = k)) = (l'.any fun kv => decide (kv.1 = k)) := by
    unfold RKV at r
    induction r with
    | nil => rfl
    | cons h t ih => simp only [List.any_cons, ih, h.1]
  unfold putD L2.putK
  rw [any]
  split
  · rename_i hb
    clear hb
    unfold RKV at r ⊢
    clear any
    induction r with
    | nil => exact .nil
    | @cons a b as bs h t ih =>
      simp only [List.map_cons]
      refine .cons ?_ ih
      rw [h.1]
      split
      · exact ⟨rfl, q⟩
      · exact h
  · rename_i hb
    clear hb
    unfold RKV at r ⊢
    clear any
    induction r with
    | nil => exact .cons ⟨rfl, q⟩ .nil
    | cons h t ih => exact .cons h ih
theorem RKV.merge {K : PySem.W.Frag} {ι : List Addr} {H : Hp} : ∀ {m : List (Key × D)} {m' : List (Key × V)} {l : List (Key × D)} {l' : List (Key × V)}, RKV K ι H m m' → RKV K ι H l l' → RKV K ι H (mergeD l m) (mergeK l' m')
  | [], _, _, _, .nil, r => r
  | p :: m, q :: m', l, l', .cons h t, r => by
    have e := RKV.put p.1 h.2 r
    have e2 : putK l' p.1 q.2 = putK l' q.1 q.2 := by rw [h.1]
    rw [e2] at e
    show RKV K ι H (mergeD (putD l p.1 p.2) m) (mergeK (putK l' q.1 q.2) m')
    exact RKV.merge t e
/-- the pairs from the left -/
def mPrs : List (Str × M D) → M (List (Key × D))
  | [] => fun _ S => .ok [] S
  | (k, m) :: r => fun ρ S => (m ρ S).bind fun d S1 => (mPrs r ρ S1).bind fun ps S2 => .ok ((.inr k, d) :: ps) S2
def mDict (l : List (Str × M D)) : M D := fun ρ S => (mPrs l ρ S).bind fun ps S1 => .ok (.ref S1.length) (S1 ++ [.dct (mergeD [] ps)])
inductive JPrs (X : Cx) (W : WX) : List (Option Expr) → List Expr → List (Str × M D) → Prop
  | nil : JPrs X W [] [] []
  | cons {k : Str} {j : Nat} {p : Pos} {e : Expr} {m : M D} {ks : List (Option Expr)} {es : List Expr} {l : List (Str × M D)} (h : JE X W e m) (r : JPrs X W ks es l) : JPrs X W (some (.Constant (.str k) j p) :: ks) (e :: es) ((k, m) :: l)
def trsOf (K : PySem.W.Frag) (mg : Str → Option Value) (W : WX) (l : List (Str × M D)) : List (TE × TE) := l.map fun p => (tC (.str p.1), tE K mg W p.2)
theorem jprs_pps {X : Cx} {W : WX} {pos : Pos} {ks : List (Option Expr)} {es : List Expr} {l : List (Str × M D)} (h : JPrs X W ks es l) : PPs X pos ks es (trsOf X.K X.mg W l) := by
  induction h with
  | nil => exact pps_nil
  | cons h r ih => exact pps_cons pe_str h ih
theorem jprs_fin {K : PySem.W.Frag} {mg : Str → Option Value} {W : WX} {σ : L2.St} : ∀ (l : List (Str × M D)) {ι : List Addr} {ρ : Sl} {S : Store} {H : Hp} {Q : List (V × V) → Hp → Prop}, RS K mg ι S H → RE K ι H ρ σ →
    FinG K mg W (fun ι H ps (qs : List (Key × V)) => RKV K ι H ps qs) σ ι H (mPrs l ρ S) (fun qs H => Q (qs.map fun kv => (kV kv.1, kv.2)) H) → tPairs (trsOf K mg W l) σ H Q
  | [], ι, ρ, S, H, Q, rs, re, f => f ι H [] (Ext.refl _ _) rs .nil
  | (k, m) :: l, ι, ρ, S, H, Q, rs, re, f => by
    unfold mPrs at f
    refine ⟨ι, ρ, S, rs, re, FinG.imp f.bind fun y H1 ⟨d, S1, ι1, x1, rs1, rd1, f1⟩ => ?_⟩
    refine jprs_fin l (ρ := ρ) rs1 (re.mono x1) (FinG.imp (Q := fun qs H2 => ∃ ps S2 ι2, Ext ι1 H1 ι2 H2 ∧ RS K mg ι2 S2 H2 ∧ RKV K ι2 H2 ps qs ∧ FinG K mg W (fun ι H ps (qs : List (Key × V)) => RKV K ι H ps qs) σ ι2 H2 (.ok ((.inr k, d) :: ps) S2) (fun qs H => Q (qs.map fun kv => (kV kv.1, kv.2)) H)) f1.bind fun qs H2 ⟨ps, S2, ι2, x2, rs2, rp, f2⟩ => ?_)
    exact f2 ι2 H2 ((.inr k, y) :: qs) (Ext.refl _ _) rs2 (.cons ⟨rfl, rd1.mono x2⟩ rp)
theorem Mo.sideD {ι : List Addr} {H : Hp} {a : Addr} {ws ws' : List (Key × V)} (h : H a = some (.dK ws)) : Mo ι H ι (upd H a (.dK ws')) :=
  ⟨⟨[], by simp⟩, fun b us e => by rw [upd_ne (fun z => by rw [z, h] at e; cases e)]; exact e, fun b o u e => by rw [upd_ne (fun z => by rw [z, h] at e; cases e)]; exact e⟩
theorem RS.sideD {K : PySem.W.Frag} {mg : Str → Option Value} {ι : List Addr} {S : Store} {H : Hp} {a : Addr} {ws ws' : List (Key × V)} (r : RS K mg ι S H) (h : H a = some (.dK ws)) (n : a ∉ ι) : RS K mg ι S (upd H a (.dK ws')) :=
  ⟨r.len, r.nd, fun i c b e1 e2 => (r.at_ i c b e1 e2).move (Mo.sideD h) (fun o e => by rw [upd_ne (show b ≠ a from fun z => n (by rw [← z]; exact List.mem_of_getElem? e2))]; exact e) fun b fs e => by rw [upd_ne (fun z => by rw [z, h] at e; cases e)]; exact e⟩
section
variable {X : Cx} {W : WX} {pos : Pos}
theorem j_dict {keys : List (Option Expr)} {values : List Expr} {l : List (Str × M D)} (h : JPrs X W keys values l) (hall : keys.all (·.isSome) = true := by rfl) (hl : keys.length = values.length := by rfl) (h0 : keys ≠ [] := by simp) (h15 : keys.length ≤ 15 := by decide) (h16 : l.length ≤ 15 := by decide) : JE X W (.Dict keys values pos) (mDict l) :=
  (pe_disp (jprs_pps h) hall hl h0 h15).imp fun σ H Q want => by
    obtain ⟨ι, ρ, S, rs, re, f⟩ := want
    intro p hp
    have x0 : Ext ι H ι (upd H p (.dK [])) := Ext.new0 hp
    have np : p ∉ ι := rs.fresh hp
    refine jprs_fin l (ρ := ρ) (rs.new0 hp) (re.mono x0) ?_
    unfold mDict at f
    cases hm : mPrs l ρ S with
    | no => rw [hm] at f; exact f.elim
    | exc c v S1 =>
      rw [hm] at f
      exact fun ι' H' C dd fs u y => f ι' H' C dd fs u (x0.trans y)
    | ok ps S1 =>
      rw [hm] at f
      intro ι1 H1 qs x1 rs1 rq
      obtain ⟨e1, n1⟩ := x1.stays upd_same np
      refine ⟨e1, qs, rfl, ?_, ?_⟩
      · have lenP : ∀ (l : List (Str × M D)) (ρ : Sl) (S : Store) (ps : List (Key × D)) (S' : Store), mPrs l ρ S = .ok ps S' → ps.length = l.length := by
          intro l
          induction l with
          | nil => intro ρ S ps S' e; simp only [mPrs, Res.ok.injEq] at e; rw [← e.1]; rfl
          | cons km r ih =>
            intro ρ S ps S' e
            obtain ⟨k, m⟩ := km
            unfold mPrs at e
            cases h1 : m ρ S with
            | ok d S1 =>
              rw [h1] at e
              have e : (mPrs r ρ S1).bind (fun ps S2 => .ok ((.inr k, d) :: ps) S2) = .ok ps S' := e
              cases h2 : mPrs r ρ S1 with
              | ok ps' S2 =>
                rw [h2] at e
                have e : Res.ok ((Sum.inr k, d) :: ps') S2 = Res.ok ps S' := e
                cases e
                rw [List.length_cons, ih _ _ _ _ h2, List.length_cons]
              | exc c v S2 => rw [h2] at e; cases e
              | no => rw [h2] at e; cases e
            | exc c v S1 => rw [h1] at e; cases e
            | no => rw [h1] at e; cases e
        rw [← Paired.length rq, lenP _ _ _ _ _ hm]
        exact h16
      · have f : FinG X.K X.mg W (fun ι H d v => RD X.K ι H d v) σ ι H (.ok (.ref S1.length) (S1 ++ [.dct (mergeD [] ps)])) Q := f
        have rs2 := rs1.sideD (ws' := mergeK [] qs) e1 n1
        have xx : Ext ι H ι1 (upd H1 p (.dK (mergeK [] qs))) := (x0.trans x1).side hp
        refine f (ι1 ++ [p]) _ _ (xx.adopt hp) (rs2.adopt n1 ⟨_, upd_same, ?_⟩) (.ref (by rw [rs2.len, List.getElem?_append_right (Nat.le_refl _), Nat.sub_self]; rfl))
        have r3 : RKV X.K (ι1 ++ [p]) (upd H1 p (.dK (mergeK [] qs))) ps qs := Paired.mapP (RKV.monoM (Mo.sideD e1) rq) fun _ _ h => ⟨h.1, h.2.more _⟩
        exact RKV.merge r3 .nil
theorem j_dict0 : JE X W (.Dict [] [] pos) (fun _ S => .ok (.ref S.length) (S ++ [.dct []])) := pe_dnewK.imp fun σ H Q ⟨ι, ρ, S, rs, re, f⟩ => fun p hp =>
  f (ι ++ [p]) _ _ (Ext.new1 hp) (rs.push hp ⟨[], upd_same, .nil⟩) (.ref (by rw [rs.len, List.getElem?_append_right (Nat.le_refl _), Nat.sub_self]; rfl))
end

/-! ### the law's end -/
section
open PySem.W
theorem law_runG {P : Program} {w : World} {K : PySem.W.Frag} {mg mb : Str → Option Value} {k : Nat} {fa a : Addr} {fd : FuncData} {x : Str} {sp : Sp} {s₁ : Shared} {vs : List Value} {ns : List Int}
    (KX : K.In s₁.heap) (hns : s₁.heap.Ns mainGlobals mg) (hb : s₁.heap.Ns builtinsNs mb) (hbb : ∀ x : Str, x ≠ "__name__" → mb x = bootBuiltins x) (hlim : s₁.heap.NoLimit) (hg : s₁.gens = #[])
    (ha : s₁.heap.get? a = some { cls := .type "list", data := .seq vs.toArray }) (hi : IntsAre vs ns) (hl : ns.length ≤ sizeLine) (hr : Room k callerA)
    (F : ∀ base : Heap, K.In base → base.Ns mainGlobals mg → FnG P w K mg base k fa fd [x] sp) (hbind : ∀ (s : Shared) (u : Value), BindsTo s fd ⟨[u], []⟩ [(x, u)])
    (hsp : ∀ H : Hp, SqF K H a (ns.map V.int) → sp [.ref a] H (fun v _ => v = .bl true) fun _ _ _ => False) :
    codeAny (model P w) callerA (.call (.ref fa) ⟨[.ref a], []⟩) (fun r s' => r = .ok (.ret (.bool true)) ∧ OldK s₁.heap s'.heap ∧ s'.os = s₁.os ∧ AllBare s'.gens) s₁ := by
  have rv := vals_ints hi
  -- an abstract heap that tracks the script or nothing
  have go : ∀ H : Hp, SqF K H a (ns.map V.int) → (∀ b u, H b = some u → b = a ∧ u = .frz { cls := .type "list", data := .seq vs.toArray } (.lst (ns.map V.int)) ∧ K.lookup a = none) →
      codeAny (model P w) callerA (.call (.ref fa) ⟨[.ref a], []⟩) (fun r s' => r = .ok (.ret (.bool true)) ∧ OldK s₁.heap s'.heap ∧ s'.os = s₁.os ∧ AllBare s'.gens) s₁ := fun H hS only => by
    have held : HOk P w H s₁.heap := fun b u e => by
      obtain ⟨rfl, rfl, _⟩ := only b u e
      exact ⟨ha, by rw [List.length_map]; exact hl, vs, _, rv, ha⟩
    have inB : ∀ {b : Addr} {o : Obj}, s₁.heap.get? b = some o → H b = none → (hidT s₁.heap H).get? b = some o := fun e n => hidT_get e n
    have free : ∀ {b : Addr}, b ≠ a → H b = none := fun {b} n => by
      cases q : H b with
      | none => rfl
      | some u => exact absurd (only b u q).1 n
    have notA : ∀ {b : Addr} {o : Obj} {es : Array DictEntry} {ep : Nat}, s₁.heap.get? b = some o → o.data = .dict es ep → H b = none := fun {b o es ep} e d => free fun z => by
      rw [z, ha] at e
      cases e
      cases d
    have nsB : ∀ {b : Addr} {m : Str → Option Value}, s₁.heap.Ns b m → (hidT s₁.heap H).Ns b m := fun {b m} ⟨o, es, ep, e, d, r⟩ => ⟨o, es, ep, inB e (notA e d), d, r⟩
    have inK : K.In (hidT s₁.heap H) := fun b o e => inB (KX b o e) (by
      cases q : H b with
      | none => rfl
      | some u =>
        obtain ⟨z, _, hk⟩ := only b u q
        rw [z, hk] at e; cases e)
    have hM : Mod K mg (hidT s₁.heap H) := ⟨inK, nsB hns, ⟨mb, nsB hb, hbb⟩, let ⟨mc, h1, h2⟩ := hlim; ⟨mc, nsB h1, h2⟩⟩
    have e0 : Env0 P w K mg (hidT s₁.heap H) callerA [] s₁ H := ⟨rfl, hM, fun b o e => of_hidT e, Nat.le_of_eq (hidT_size _ _), trivial, fun b hb => absurd (show b ∈ ([] : List Addr) from hb) (by simp), held, .of_eq hg⟩
    refine codeAny_mono ((F _ inK (nsB hns)).run callerA [] s₁ H ⟨[.ref a], []⟩ [.ref a] [.ref a] _ _ hr rfl e0 (hbind s₁ (.ref a)) (.cons rfl .nil) (hsp H hS)) fun r s' got => ?_
    cases r with
    | error e =>
      obtain ⟨_, _, _, _, _, _, _, _, _, _, _, _, no⟩ := got
      exact no.elim
    | ok fl =>
      cases fl with
      | next => exact False.elim got
      | brk => exact False.elim got
      | cont => exact False.elim got
      | ret u =>
        obtain ⟨v, H', os, bare, un, held', rv', q⟩ := got
        have q' : v = .bl true := q
        subst q'
        obtain rfl : u = Value.bool true := rv'
        refine ⟨rfl, OldK.of_keep fun b o e => ?_, os, bare⟩
        cases q : H b with
        | none => exact un.keep b o e q (by intro z; exact absurd (show b ∈ ([] : List Addr) from z) (by simp)) (by simp)
        | some u =>
          obtain ⟨rfl, rfl, _⟩ := only b u q
          obtain ⟨e1, _⟩ := held b _ q
          obtain ⟨e2, _⟩ := held' b _ (un.frzs b _ _ q)
          rw [e] at e1; cases e1
          exact e2
  cases hk : K.lookup a with
  | some o =>
    have e := KX a o hk
    rw [ha] at e
    cases e
    exact go (fun _ => none) (.inr ⟨_, vs.toArray, _, hk, rfl, rfl, rfl, by rw [List.size_toArray, hi.length]; exact hl, by simpa using rv⟩) fun b u z => by cases z
  | none =>
    refine go (fun b => if b = a then some (.frz { cls := .type "list", data := .seq vs.toArray } (.lst (ns.map V.int))) else none) (.inl ⟨_, if_pos rfl⟩) fun b u z => ?_
    by_cases h : b = a
    · exact ⟨h, (Option.some.inj ((if_pos h).symm.trans z)).symm, hk⟩
    · cases (if_neg h).symm.trans z
/-- the goal that the head leaves, from the law's function: it gives True at every script of these ints -/
theorem walk_G {l : OpenLaw} {n k : Nat} {q : Program} {loose : List Str} {XP : (Str → Option Value) → Heap → Prop} {YP : World → Heap → Prop} {d : DefRec} {K : Params → Frag} {x : Str} {f : List D → Store → Res D}
    (hn : l.most = some n) (hn2 : n ≤ sizeLine) (hdf : d.params.defaults = []) (hr : Room k callerA) (hY : ∀ (w : World) (h : Heap), YP w h → (K w.params).In h)
    (F : ∀ (w : World) (mg : Str → Option Value) (fa : Addr) (h : Heap), (K w.params).In h → h.Ns mainGlobals mg → mg d.name = some (.ref fa) →
      ∃ fd : FuncData, (∀ (s : Shared) (u : Value), BindsTo s fd ⟨[u], []⟩ [(x, u)]) ∧ ∀ base : Heap, (K w.params).In base → base.Ns mainGlobals mg → FnG l.prog w (K w.params) mg base k fa fd [x] (spF (K w.params) mg 1 f))
    (hf : ∀ ns : List Int, ns.length ≤ n → (∀ z ∈ ns, z.natAbs.log2 ≤ 1048576) → ∃ S, f [.fro (ns.map D.int)] [] = .ok (.bl true) S) :
    WalkO q loose XP YP l.row.toRowW d [] (fun f vs => PySem.call f vs) := by
  refine Att.attach_callB hn hdf fun w s₀ s₁ mg mb fa o pm cd doc a vs ns G Y ho hd hcd hmg hobj hints hlen hbits hg => ?_
  have KX := hY w _ Y
  obtain ⟨fd, hb, hF⟩ := F w mg fa _ KX G.T.g hmg
  refine law_runG KX G.T.g G.T.b G.T.builtins G.T.nolimit hg hobj hints (Nat.le_trans hlen hn2) hr hF hb fun H hS => ?_
  obtain ⟨S, e⟩ := hf ns hlen fun z hz => by
    have h := hbits z hz
    unfold Builtin.Int.intBits at h
    split at h
    · rename_i h1
      have e0 : z = 0 := by simpa using h1
      subst e0
      exact Nat.le_trans (by decide) (Nat.zero_le 1048576)
    · omega
  have allI : ∀ ns : List Int, RDs (K w.params) [] H (ns.map D.int) (ns.map V.int) := by
    intro ns
    induction ns with
    | nil => exact .nil
    | cons n ns ih => exact .cons (.int n) ih
  refine ⟨rfl, [], [], [.fro (ns.map D.int)], ⟨rfl, List.nodup_nil, fun i c a e => by simp at e⟩, .cons (.fro hS (allI ns)) .nil, ?_⟩
  rw [e]
  intro ι' H' v _ _ rd
  rw [rd.bl_inv]
end
end MI

set_option Elab.async false
set_option linter.all false
set_option maxRecDepth 100000
set_option maxHeartbeats 4000000
namespace MI
open PySem PySem.Spec PyProof.Rows L2

/-! ### further rules: a compare as a test, y = [..] in one row, a global tuple, chains -/
def mTst (m : M D) : M Bool := fun ρ S => (m ρ S).bind fun d S1 => match isB d with
  | some b => .ok b S1
  | none => .no
theorem tst_fin {K : PySem.W.Frag} {mg : Str → Option Value} {W : WX} {σ : L2.St} {H : Hp} {Q : Bool → Hp → Prop} {m : M D} (h : tT K mg W (mTst m) σ H Q) :
    tE K mg W m σ H fun x H' => ∃ k, x = .bl k ∧ Q k H' := by
  obtain ⟨ι, ρ, S, rs, re, f⟩ := tG_seq (R := fun ι H d v => RD K ι H d v) (m := m) (k := fun _ d S1 => match isB d with
    | some b => Res.ok b S1
    | none => .no) h
  refine ⟨ι, ρ, S, rs, re, f.imp fun x H1 ⟨ι1, ρ1, d, S1, rs1, re1, rd1, f1⟩ => ?_⟩
  cases g : isB d with
  | none => rw [g] at f1; exact f1.elim
  | some b =>
    rw [g] at f1
    rw [isB_some g] at rd1
    exact ⟨b, rd1.bl_inv, f1 ι1 H1 b (Ext.refl _ _) rs1 rfl⟩
section
variable {X : Cx} {W : WX} {a b : Expr} {ma mb : M D} {pos : Pos}
theorem j_tcmp {op : CmpOp} {g : D → D → Store → Res D} (ho : OpR X (compareOp op) (r2 X.K X.mg g)) (hc : Calm2 g) (ha : JE X W a ma) (hb : JE X W b mb) (hm : behindInMarks op b = false) : JT X W (.Compare a [op] [b] pos) (mTst (mOp g ma mb)) :=
  (pt_cmpR ho ha hb hm).imp fun σ H Q h => by
    obtain ⟨ι, ρ, S, rs, re, f⟩ := tG_seq (R := fun ι H d v => RD X.K ι H d v) (m := ma) (k := fun ρ x S1 => (mb ρ S1).bind fun y S2 => g x y S2) (tst_fin h)
    refine ⟨ι, ρ, S, rs, re, f.imp fun x H1 ⟨ι1, ρ1, d, S1, rs1, re1, rd1, f1⟩ => ⟨ι1, ρ1, S1, rs1, re1, FinG.imp f1.bind fun y H2 ⟨e, S2, ι2, y2, rs2, rd2, f2⟩ => ?_⟩⟩
    exact ⟨ι2, S2, d, e, rs2, rd1.mono y2, rd2, f2.calm (hc _ _ _)⟩
end
/-- y = [.. for .. in ..] in one row -/
theorem js_lset {X : Cx} {W : WX} {y : Str} {py : Pos} {elt tg iter : Expr} {ifs : List Expr} {scope : Scope} {pos spos : Pos} {t : Tgt} {mi : M Src} {mc : M Bool} {me : M D} (i : Nat) (own : List (Str × Nat)) (hc : X.calm = true) (hN : X.N.Nodup) (hy : X.N[i]? = some y) (hyl : X.env.scope.names.lookup y = some .local)
    (hsw : swapsWith (.ListComp elt [⟨tg, iter, ifs, 0⟩] scope pos) (some (.Name y py)) spos.line X.env = pure true) (hi : JI X W tg iter mi) (ok : BlkOk X.N X.env.scope scope own)
    (hg : ∀ (s : Shared) (H : Hp) (C : Addr) (cl : List (Str × Addr)) (fp : List Addr), JG (X.blk s H scope (compEnvC scope cl C X.env) fp) tg t) (ht : ∀ (s : Shared) (H : Hp) (C : Addr) (cl : List (Str × Addr)) (fp : List Addr), JC (X.blk s H scope (compEnvC scope cl C X.env) fp) noW ifs mc)
    (he : ∀ (s : Shared) (H : Hp) (C : Addr) (cl : List (Str × Addr)) (fp : List Addr), JE (X.blk s H scope (compEnvC scope cl C X.env) fp) noW elt me) (hsub : ∀ j ∈ t.slots, j ∈ own.map (·.2)) (hs : ∀ x, foldedSetIterable iter X.env x = pure x := by intro _; rfl) :
    JS X W (.Assign [.Name y py] (.ListComp elt [⟨tg, iter, ifs, 0⟩] scope pos) spos) (sAsg (.nm i) (mBox (mLc t (own.map (·.2)) mi mc me))) :=
  (ps_setLc (wi := tI X.K X.mg W mi) (g := tTg X.K X.mg t) (tt := tT X.K X.mg noW mc) (te := tE X.K X.mg noW me) hc hN hy hyl hsw hi ok hg ht he hs).imp fun Dn σ H h => by
    obtain ⟨ι, ρ, S, rs, re, f⟩ := tS_seq (R := fun ι H d v => RD X.K ι H d v) (m := mBox (mLc t (own.map (·.2)) mi mc me)) (k := fun ρ d S1 => match asg (.nm i) d ρ with
      | some ρ' => .next ρ' S1
      | none => .no) h
    refine lc_fin hsub (box_fin ⟨ι, ρ, S, rs, re, f.imp fun x H1 ⟨ι1, ρ1, d, S1, rs1, re1, rd1, f1⟩ => ?_⟩)
    exact f1 ι1 H1 _ (Ext.refl _ _) rs1 (re1.set i rd1)
theorem oexC_mk {K : PySem.W.Frag} {C : Addr} {nm q : Str} {N : Addr} {bs bm : List Value} {sn : List Str} {sub : List Value} {ab : Bool} {col : Option Bool} {dd : Option Addr} {k0 k1 k2 k3 k5 : Option Value}
    (l : K.lookup C = some (excClassObj nm q C N bs bm true sn sub ab col dd k0 k1 k2 k3 k5 "ValueError.__new__")) (r : PySem.HandSPX.refsVE bm = true) (s : PySem.W.findIn K (.ref C) "__setattr__" = some (some (.builtin "object.__setattr__")))
    (e : PySem.W.subIn K (.ref C) (.type "BaseException") = some true) (t : PySem.W.typeIn K (.ref C) = some (.type "type")) (k : PySem.W.keepIn K (.ref C) = true) : OexC K C := ⟨⟨_, _, _, _, _, _, _, _, _, _, _, _, _, _, _, l, r⟩, s, e, t, k⟩
section
variable {K : PySem.W.Frag} {t : Value} {C : Addr} {b : Bool}
theorem kitCls_mk (h2 : PySem.W.isClsIn K C = true) (h3 : PySem.W.typeIn K (.ref C) = some (.type "type")) (h4 : PySem.W.subIn K t (.ref C) = some b) : PySem.W.kitCls K t (.ref C) = some b := by
  have e2 : ((PySem.W.clsIn K C).isSome && PySem.W.typeIn K (.ref C) == some (.type "type")) = true := by
    have h2' : (PySem.W.clsIn K C).isSome = true := h2
    rw [h2', h3] <;> rfl
  show (if ((PySem.W.clsIn K C).isSome && PySem.W.typeIn K (.ref C) == some (.type "type")) = true then PySem.W.subIn K t (.ref C) else none) = some b
  rw [if_pos e2]
  exact h4
theorem exm_mk (h1 : PySem.W.subIn K (.ref C) (.type "BaseException") = some true) (h2 : PySem.W.isClsIn K C = true) (h3 : PySem.W.typeIn K (.ref C) = some (.type "type")) (h4 : PySem.W.subIn K t (.ref C) = some b) : PySem.W.exmOne K t (.ref C) = some b := by
  unfold PySem.W.exmOne
  rw [if_pos (by rw [h1]; rfl)]
  exact kitCls_mk h2 h3 h4
theorem kit_self : PySem.W.kitOne K t t = some true := if_pos (beq_self_eq_true t)
theorem kit_mk (hn : (t == .ref C) = false) (h2 : PySem.W.isClsIn K C = true) (h3 : PySem.W.typeIn K (.ref C) = some (.type "type")) (h4 : PySem.W.subIn K t (.ref C) = some b) : PySem.W.kitOne K t (.ref C) = some b := by
  unfold PySem.W.kitOne
  rw [if_neg (by rw [hn]; decide)]
  exact kitCls_mk h2 h3 h4
end
def blkB (N : List Str) (sc scope : List (Str × NameKind)) (own : List (Str × Nat)) : Bool :=
  scope.all (fun y => decide (scope.lookup y.1 = some y.2)) && own.all (fun p => decide (N[p.2]? = some p.1)) && scope.all (fun y => !decide (y.2 = .free) || decide (sc.lookup y.1 = some .cell) || decide (sc.lookup y.1 = some .free)) &&
    scope.all (fun y => !(decide (y.2 = .local) || decide (y.2 = .cell)) || decide (y.1 ∈ own.map (·.1)) || decide (y.1 ∉ N))
theorem blk_ok {N : List Str} {sc scope : Scope} {own : List (Str × Nat)} (hk : scope.kind = .function) (h : blkB N sc.names scope.names own = true) : BlkOk N sc scope own := by
  unfold blkB at h
  simp only [Bool.and_eq_true, List.all_eq_true, Bool.or_eq_true, Bool.not_eq_true', decide_eq_true_eq, decide_eq_false_iff_not] at h
  obtain ⟨⟨⟨h1, h2⟩, h3⟩, h4⟩ := h
  refine ⟨hk, h1, h2, fun y hy e => ?_, fun y hy e => ?_⟩
  · rcases h3 y hy with (z | z) | z
    · exact absurd e z
    · exact .inl z
    · exact .inr z
  · rcases h4 y hy with (z | z) | z
    · rcases e with e | e
      · rw [e] at z; exact absurd z (by decide)
      · rw [e] at z; exact absurd z (by decide)
    · exact .inl z
    · exact .inr z
/-- a tuple of the written part -/
theorem j_globT {X : Cx} {W : WX} {x : Str} {pos : Pos} {a : Addr} {vs : List V} {ds : List D} (hm : X.mg x = some (.ref a)) (ht : ∀ H : Hp, SqT X.K H a vs) (hr : ∀ H : Hp, RDs X.K [] H ds vs) (hg : Gl X x := by rfl) (hd : (x == ("__debug__" : Str)) = false := by decide) : JE X W (.Name x pos) (mC (.tup ds)) :=
  (pe_glob (v := V.ref a) hg hm rfl hd).imp fun σ H Q ⟨ι, ρ, S, rs, re, f⟩ => f ι H _ (Ext.refl _ _) rs (.tup (ht H) ((hr H).monoM ⟨⟨ι, by simp⟩, fun _ _ h => h, fun _ _ _ h => h⟩))
/-- a tuple of the written part, from its object -/
theorem sqT_obj {K : PySem.W.Frag} {H : Hp} {a : Addr} {od : Option Addr} {its : Array Value} {n : Nat} {sl : Array (Option Value)} {vs : List V} (l : K.lookup a = some ⟨.type "tuple", od, .seq its n, sl⟩) (r : Vals vs its.toList) (hl : its.size ≤ sizeLine) : SqT K H a vs :=
  .inr ⟨_, its, n, l, rfl, rfl, hl, r⟩
theorem rds_ints {K : PySem.W.Frag} {ι : List Addr} {H : Hp} : ∀ ns : List Int, RDs K ι H (ns.map D.int) (ns.map V.int)
  | [] => .nil
  | n :: ns => .cons (.int n) (rds_ints ns)
end MI

set_option Elab.async false
set_option linter.all false
set_option maxRecDepth 100000
set_option maxHeartbeats 4000000
namespace MI
open PySem PySem.Spec PyProof.Rows L2

/-! ### a op b op' c -/
def mChain (g g' : D → D → Store → Res D) (a b c : M D) : M D := fun ρ S => (a ρ S).bind fun x S1 => (b ρ S1).bind fun y S2 => (g x y S2).bind fun z S3 => match isB z with
  | some k => if k = true then (c ρ S3).bind fun w S4 => g' y w S4 else .ok (.bl false) S3
  | none => .no
theorem chain_fin {K : PySem.W.Frag} {mg : Str → Option Value} {W : WX} {σ : L2.St} {H : Hp} {Q : VK} {g g' : D → D → Store → Res D} {ma mb mc : M D} (hc : Calm2 g) (hc' : Calm2 g') (h : tE K mg W (mChain g g' ma mb mc) σ H Q) :
    tChain (r2 K mg g) (r2 K mg g') (tE K mg W ma) (tE K mg W mb) (tE K mg W mc) σ H Q := by
  obtain ⟨ι, ρ, S, rs, re, f⟩ := h
  unfold mChain at f
  refine ⟨ι, ρ, S, rs, re, FinG.imp f.bind fun x H1 ⟨d, S1, ι1, y1, rs1, rd1, f1⟩ => ⟨ι1, ρ, S1, rs1, re.mono y1, FinG.imp f1.bind fun y H2 ⟨e, S2, ι2, y2, rs2, rd2, f2⟩ => ?_⟩⟩
  refine ⟨ι2, S2, d, e, rs2, rd1.mono y2, rd2, FinG.calm (hc _ _ _) (FinG.imp f2.bind fun z H3 ⟨zb, S3, ι3, y3, rs3, rd3, f3⟩ => ?_)⟩
  obtain ⟨k, rfl, f4⟩ := fin_isB (S := S3) (k := fun c => if c = true then (mc ρ S3).bind fun w S4 => g' e w S4 else .ok (.bl false) S3) rd3 f3
  refine ⟨k, rfl, ?_⟩
  cases k with
  | true =>
    simp only [if_true] at f4 ⊢
    refine ⟨ι3, ρ, S3, rs3, ((re.mono y1).mono y2).mono y3, FinG.imp f4.bind fun w H4 ⟨dw, S4, ι4, y4, rs4, rd4, f5⟩ => ?_⟩
    exact ⟨ι4, S4, e, dw, rs4, (rd2.mono y3).mono y4, rd4, f5.calm (hc' _ _ _)⟩
  | false =>
    simp only [Bool.false_eq_true, if_false] at f4 ⊢
    exact f4 ι3 H3 _ (Ext.refl _ _) rs3 (.bl false)
section
variable {X : Cx} {W : WX} {a b c : Expr} {ma mb mc : M D} {pos : Pos} {op op' : CmpOp} {g g' : D → D → Store → Res D}
theorem j_chain (ho : OpR X (compareOp op) (r2 X.K X.mg g)) (hg : Calm2 g) (ho' : OpR X (compareOp op') (r2 X.K X.mg g')) (hg' : Calm2 g') (ha : JE X W a ma) (hb : JE X W b mb) (hc : JE X W c mc) (hm : lastMarks [op, op'] [b, c] = false := by with_unfolding_all rfl) :
    JE X W (.Compare a [op, op'] [b, c] pos) (mChain g g' ma mb mc) := (pe_chain ho ho' ha hb hc hm).imp fun σ H Q h => chain_fin hg hg' h
theorem j_tchain (ho : OpR X (compareOp op) (r2 X.K X.mg g)) (hg : Calm2 g) (ho' : OpR X (compareOp op') (r2 X.K X.mg g')) (hg' : Calm2 g') (ha : JE X W a ma) (hb : JE X W b mb) (hc : JE X W c mc) (hm : lastMarks [op, op'] [b, c] = false := by with_unfolding_all rfl) :
    JT X W (.Compare a [op, op'] [b, c] pos) (mTst (mChain g g' ma mb mc)) := (pt_chain ho ho' ha hb hc hm).imp fun σ H Q h => chain_fin hg hg' (tst_fin h)
end
/-! ### << -/
def cShl (i j : Int) : Bool := (decide (0 ≤ j) && decide (j ≤ 1000)) && decide (i.natAbs.log2 < 100000000)
abbrev gShl := gInt2 cShl fun i j => .int (i * 2 ^ j.toNat)
theorem o_shl {X : Cx} : OpR X (binaryOp .LShift) (r2 X.K X.mg gShl) := o_int2 op_shlW (fun i j h => by
  unfold cShl at h
  simp only [Bool.and_eq_true, decide_eq_true_eq] at h
  exact ⟨h.1.1, by
    have h3 := bits_le i
    have e : (2 : Int) ^ 27 = 134217728 := by decide
    omega⟩) fun _ _ _ _ _ => .int _
end MI

set_option Elab.async false
set_option linter.all false
set_option maxRecDepth 100000
set_option maxHeartbeats 4000000
namespace MI
open PySem PySem.Spec PyProof.Rows L2

/-! ### zip(e, e2): two lists, or two tuples -/
/-- a list at a, wherever its cells stand as they stood -/
def Lq (K : PySem.W.Frag) (mg : Str → Option Value) (ι : List Addr) (H : Hp) (cells : List (Nat × List D)) (a : Addr) (xs : List D) : Prop :=
  ∀ ι1 S1 H1, Mo ι H ι1 H1 → RS K mg ι1 S1 H1 → (cells.all (cellIs S1)) = true → ∃ vs, SqL K H1 a vs ∧ RDs K ι1 H1 xs vs
section
variable {K : PySem.W.Frag} {mg : Str → Option Value} {ι : List Addr} {H : Hp} {a b : Addr} {xs ys : List D} {c1 c2 : List (Nat × List D)}
theorem lq_fro {vs : List V} (h : SqF K H a vs) (r : RDs K ι H xs vs) : Lq K mg ι H [] a xs := fun ι1 S1 H1 x rs _ => ⟨vs, (x.sqF h).sql, r.monoM x⟩
theorem lq_cell {i : Nat} (ha : ι[i]? = some a) : Lq K mg ι H [(i, xs)] a xs := fun ι1 S1 H1 x rs hok => by
  have hc : S1[i]? = some (.lst xs) := cellIs_get (p := (i, xs)) (by simpa using hok)
  obtain ⟨vs, e1, r1⟩ := rs.get' hc (x.at ha)
  exact ⟨vs, SqL.of e1, r1⟩
def zipD (xs ys : List D) : List D := List.zipWith (fun x y => D.tup [x, y]) xs ys
theorem zip_at {i : Nat} {d : D} (h : (zipD xs ys)[i]? = some d) : ∃ x y, xs[i]? = some x ∧ ys[i]? = some y ∧ d = .tup [x, y] := by
  unfold zipD at h
  rw [List.getElem?_zipWith] at h
  cases e1 : xs[i]? with
  | none => rw [e1] at h; simp at h
  | some x =>
    cases e2 : ys[i]? with
    | none => rw [e1, e2] at h; simp at h
    | some y =>
      rw [e1, e2] at h
      exact ⟨x, y, rfl, rfl, by simpa using h.symm⟩
theorem zip_new {x y : V} {d e : D} {T : Addr} {S : Store} (rs : RS K mg ι S H) (rx : RD K ι H d x) (ry : RD K ι H e y) (hT : H T = none) : Ext ι H ι (upd H T (.tup [x, y])) ∧ RS K mg ι S (upd H T (.tup [x, y])) ∧ RD K ι (upd H T (.tup [x, y])) (.tup [d, e]) (.ref T) :=
  ⟨Ext.new0 hT, rs.new0 hT, .tup (.inl (.inl upd_same)) (.cons (rx.mono (Ext.new0 hT)) (.cons (ry.mono (Ext.new0 hT)) .nil))⟩
theorem wk_zipL (l1 : Lq K mg ι H c1 a xs) (l2 : Lq K mg ι H c2 b ys) : Wk K mg ι H ⟨c1 ++ c2, zipD xs ys⟩ (Itz K a b) := fun ι1 S1 H1 x rs hok i => by
  have hok' : (c1.all (cellIs S1)) = true ∧ (c2.all (cellIs S1)) = true := by
    have := hok
    unfold Src.ok at this
    simpa [List.all_append] using this
  obtain ⟨vs, q1, r1⟩ := l1 ι1 S1 H1 x rs hok'.1
  obtain ⟨us, q2, r2⟩ := l2 ι1 S1 H1 x rs hok'.2
  refine ⟨fun hl => ⟨vs, us, q1, q2, ?_⟩, fun d hd => ?_⟩
  · have e1 := r1.length
    have e2 := r2.length
    have hl' : min xs.length ys.length ≤ i := by simpa [zipD] using hl
    omega
  · obtain ⟨dx, dy, h1, h2, rfl⟩ := zip_at hd
    obtain ⟨vx, g1, k1⟩ := r1.get h1
    obtain ⟨vy, g2, k2⟩ := r2.get h2
    refine ⟨⟨vs, us, vx, vy, q1, q2, g1, g2⟩, fun v H2 hy => ?_⟩
    obtain ⟨T, x', y', rfl, hT, rfl, hx, hy'⟩ := hy
    have e1 := hx vs q1
    rw [g1] at e1
    cases e1
    have e2 := hy' us q2
    rw [g2] at e2
    cases e2
    exact zip_new rs k1 k2 hT
theorem wk_zipT {vs us : List V} (q1 : SqT K H a vs) (r1 : RDs K ι H xs vs) (q2 : SqT K H b us) (r2 : RDs K ι H ys us) : Wk K mg ι H ⟨[], zipD xs ys⟩ (RZ.ItzT K a b) := fun ι1 S1 H1 x rs _ i => by
  have q1 := x.sqT q1
  have q2 := x.sqT q2
  have r1 := r1.monoM x
  have r2 := r2.monoM x
  refine ⟨fun hl => ⟨vs, us, q1, q2, ?_⟩, fun d hd => ?_⟩
  · have e1 := r1.length
    have e2 := r2.length
    have hl' : min xs.length ys.length ≤ i := by simpa [zipD] using hl
    omega
  · obtain ⟨dx, dy, h1, h2, rfl⟩ := zip_at hd
    obtain ⟨vx, g1, k1⟩ := r1.get h1
    obtain ⟨vy, g2, k2⟩ := r2.get h2
    refine ⟨⟨vs, us, vx, vy, q1, q2, g1, g2⟩, fun v H2 hy => ?_⟩
    obtain ⟨T, x', y', rfl, hT, rfl, hx, hy'⟩ := hy
    have e1 := hx vs q1
    rw [g1] at e1
    cases e1
    have e2 := hy' us q2
    rw [g2] at e2
    cases e2
    exact zip_new rs k1 k2 hT
end
/-- a list by its value -/
def lsq (d : D) (S : Store) : Option (List (Nat × List D) × List D) := match d with
  | .fro xs => some ([], xs)
  | .ref i => match S[i]? with
    | some (.lst xs) => some ([(i, xs)], xs)
    | _ => none
  | _ => none
def gZip (d e : D) (S : Store) : Res Src := match d, e with
  | .tup xs, .tup ys => .ok ⟨[], zipD xs ys⟩ S
  | d, e => match lsq d S, lsq e S with
    | some p, some q => .ok ⟨p.1 ++ q.1, zipD p.2 q.2⟩ S
    | _, _ => .no
def mZip (a b : M D) : M Src := fun ρ S => (a ρ S).bind fun x S1 => (b ρ S1).bind fun y S2 => gZip x y S2
theorem lsq_v {K : PySem.W.Frag} {mg : Str → Option Value} {ι : List Addr} {S : Store} {H : Hp} {d : D} {v : V} {p : List (Nat × List D) × List D} (rs : RS K mg ι S H) (rd : RD K ι H d v) (h : lsq d S = some p) : ∃ a vs, v = .ref a ∧ SqL K H a vs ∧ Lq K mg ι H p.1 a p.2 := by
  cases d with
  | fro xs =>
    simp only [lsq, Option.some.injEq] at h
    subst h
    obtain ⟨a, vs, rfl, ha, r⟩ := rd.fro_inv
    exact ⟨a, vs, rfl, ha.sql, lq_fro ha r⟩
  | ref i =>
    simp only [lsq] at h
    split at h
    · rename_i xs hx
      cases h
      obtain ⟨a, rfl, ha⟩ := rd.ref_inv
      obtain ⟨vs, e1, r⟩ := rs.get' hx ha
      exact ⟨a, vs, rfl, SqL.of e1, lq_cell ha⟩
    · cases h
  | _ => simp [lsq] at h
theorem j_zip {X : Cx} {W : WX} {e e2 : Expr} {m m2 : M D} {p pos tpos : Pos} {elts : List Expr} {kk : Nat} (hm : X.mg "zip" = none) (ha : JE X W e m) (hb : JE X W e2 m2) (hg : Gl X "zip" := by rfl)
    (hs : starEach [e, e2] X.env = (false, eval e X.env) :: starEach [e2] X.env := by rfl) (hs1 : starEach [e2] X.env = (false, eval e2 X.env) :: starEach [] X.env := by rfl) (hpl : (backTo pos (starEach [e2] X.env)).any (·.1) = false := by rfl) :
    JI X W (.Tuple elts kk tpos) (.Call (.Name "zip" p) [e, e2] [] pos) (mZip m m2) := (RZ.pi_zipA hg hm (pa_cons ha (pa_cons hb pa_nil hs1) hs) hs hpl).imp fun σ H R h => by
  obtain ⟨ι, ρ, S, rs, re, f⟩ := tG_seq (R := fun ι H d v => RD X.K ι H d v) (m := m) (k := fun ρ x S1 => (m2 ρ S1).bind fun y S2 => gZip x y S2) h
  refine ⟨ι, ρ, S, rs, re, f.imp fun x H1 ⟨ι1, ρ1, d, S1, rs1, re1, rd1, f1⟩ => ⟨ι1, ρ1, S1, rs1, re1, FinG.imp f1.bind fun y H2 ⟨e, S2, ι2, y2, rs2, rd2, f2⟩ => ?_⟩⟩
  have rd1 := rd1.mono y2
  unfold gZip at f2
  split at f2
  · rename_i xs ys
    obtain ⟨a, vs, rfl, qa, ra⟩ := rd1.tup_inv
    obtain ⟨b, us, rfl, qb, rb⟩ := rd2.tup_inv
    exact ⟨a, b, vs, us, rfl, .inr ⟨qa, qb, f2 ι2 H2 _ (Ext.refl _ _) rs2 (wk_zipT qa ra qb rb)⟩⟩
  · split at f2
    · rename_i p q h1 h2
      obtain ⟨a, vs, rfl, qa, la⟩ := lsq_v rs2 rd1 h1
      obtain ⟨b, us, rfl, qb, lb⟩ := lsq_v rs2 rd2 h2
      exact ⟨a, b, vs, us, rfl, .inl ⟨qa, qb, f2 ι2 H2 _ (Ext.refl _ _) rs2 (wk_zipL la lb)⟩⟩
    · exact f2.elim
end MI

set_option Elab.async false
set_option linter.all false
set_option maxRecDepth 100000
set_option maxHeartbeats 4000000
namespace MI
open PySem PySem.Spec PyProof.Rows L2

/-! ### math.lcm of two -/
def cLcm (a b : Int) : Bool := (decide (a.natAbs.log2 < 13000) && decide (b.natAbs.log2 < 13000)) && decide ((Nat.lcm a.natAbs b.natAbs).log2 < bitsLine)
def gLcm (xs : List D) (S : Store) : Res D := match xs with
  | [.int a, .int b] => if cLcm a b then .ok (.int ((Nat.lcm a.natAbs b.natAbs : Nat) : Int)) S else .no
  | _ => .no
theorem calm_lcm : CalmN gLcm := fun ds S c v S' h => by
  unfold gLcm at h
  split at h
  · split at h <;> cases h
  · cases h
theorem log2_max {a b k : Nat} (ha : a.log2 < k) (hb : b.log2 < k) : (max a b).log2 < k := by
  by_cases h : a ≤ b
  · rw [Nat.max_eq_right h]; exact hb
  · rw [Nat.max_eq_left (by omega)]; exact ha
theorem c_lcm {X : Cx} : CallR X (.builtin "math.lcm") (rN X.K X.mg gLcm) := by
  intro pins s σ H xs us Q I r h
  obtain ⟨ι, S, ds, rs, rd, f⟩ := h
  unfold gLcm at f
  split at f
  · rename_i i j
    split at f
    · rename_i hc
      unfold cLcm at hc
      simp only [Bool.and_eq_true, decide_eq_true_eq] at hc
      obtain ⟨⟨h1, h2⟩, h3⟩ := hc
      obtain ⟨v, u, rfl, r1, r2⟩ := rd.two_inv
      rw [r1.int_inv, r2.int_inv] at r
      obtain ⟨t, t', rfl⟩ := Vals.int2 r
      have e : (Nat.lcm 1 i.natAbs).lcm j.natAbs = Nat.lcm i.natAbs j.natAbs := by rw [Nat.lcm_one_left]
      have a1 : (max 1 i.natAbs).log2 < 13000 := log2_max (by decide) h1
      have a2 : (max i.natAbs j.natAbs).log2 < 13000 := log2_max h1 h2
      have g := PySem.W.mg_run_lcm i t j t' (by omega) (by omega) (by rw [e, Int.natAbs_natCast]; exact h3)
      rw [e] at g
      exact PySem.call_function_meets PySem.W.MGF.kind_lcm PySem.W.MGF.plain_lcm PySem.W.MGF.entry_lcm (PySem.W.MGF.args_lcm _ _) g.meets ⟨.int _, H, I.tok _, ⟨_, rfl⟩, f ι H _ (Ext.refl _ _) rs (.int _)⟩
    · exact f.elim
  · exact f.elim
/-! ### range(i, j, c) -/
def rngC (lo c : Int) (n : Nat) : List D := (List.range n).map fun (i : Nat) => D.int (lo + (i : Int) * c)
def gRng3 (d e g : D) (S : Store) : Res Src := match d, e, g with
  | .int i, .int j, .int c => if (c ≠ 0 ∧ c.natAbs < 1073741824) ∧ Builtin.Range.small i j c = true ∧ 0 ≤ Builtin.Range.rangeSize i j c then .ok ⟨[], rngC i c (Builtin.Range.rangeSize i j c).toNat⟩ S else .no
  | _, _, _ => .no
def mRng3 (a b c : M D) : M Src := fun ρ S => (a ρ S).bind fun x S1 => (b ρ S1).bind fun y S2 => (c ρ S2).bind fun z S3 => gRng3 x y z S3
theorem wk_rngC {K : PySem.W.Frag} {mg : Str → Option Value} {ι : List Addr} {H : Hp} {lo c : Int} {n : Nat} : Wk K mg ι H ⟨[], rngC lo c n⟩ (Itc lo c n) := fun ι1 S1 H1 x rs _ i => by
  refine ⟨fun hl => (by simpa [rngC] using hl : n ≤ i), fun d hd => ?_⟩
  have hi : i < n := by
    have := (List.getElem?_eq_some_iff.mp hd).1
    simpa [rngC] using this
  refine ⟨hi, fun y H2 hy => ?_⟩
  obtain ⟨rfl, rfl⟩ := hy
  unfold rngC at hd
  rw [List.getElem?_map, List.getElem?_range hi] at hd
  have e : d = D.int (lo + (i : Int) * c) := by simpa using hd.symm
  rw [e]
  exact ⟨Ext.refl _ _, rs, .int _⟩
theorem j_range3 {X : Cx} {W : WX} {tg a b c : Expr} {p pos : Pos} {m m2 m3 : M D} (hm : X.mg "range" = none) (ha : JE X W a m) (hb : JE X W b m2) (hc : JE X W c m3) (hg : Gl X "range" := by rfl)
    (hs0 : starEach [a, b, c] X.env = (false, eval a X.env) :: starEach [b, c] X.env := by rfl) (hs1 : starEach [b, c] X.env = (false, eval b X.env) :: starEach [c] X.env := by rfl) (hs2 : starEach [c] X.env = (false, eval c X.env) :: starEach [] X.env := by rfl) (hpl : (backTo pos (starEach [b, c] X.env)).any (·.1) = false := by rfl) :
    JI X W tg (.Call (.Name "range" p) [a, b, c] [] pos) (mRng3 m m2 m3) := (pi_range3 hg hm (pa_cons ha (pa_cons hb (pa_cons hc pa_nil hs2) hs1) hs0) hs0 hpl).imp fun σ H R h => by
  obtain ⟨ι, ρ, S, rs, re, f⟩ := tG_seq (R := fun ι H d v => RD X.K ι H d v) (m := m) (k := fun ρ x S1 => (m2 ρ S1).bind fun y S2 => (m3 ρ S2).bind fun z S3 => gRng3 x y z S3) h
  refine ⟨ι, ρ, S, rs, re, f.imp fun x H1 ⟨ι1, ρ1, d, S1, rs1, re1, rd1, f1⟩ => ⟨ι1, ρ1, S1, rs1, re1, FinG.imp f1.bind fun y H2 ⟨e, S2, ι2, y2, rs2, rd2, f2⟩ => ⟨ι2, ρ1, S2, rs2, re1.mono y2, FinG.imp f2.bind fun z H3 ⟨g, S3, ι3, y3, rs3, rd3, f3⟩ => ?_⟩⟩⟩
  cases d with
  | int i =>
    cases e with
    | int j =>
      cases g with
      | int k =>
        simp only [gRng3] at f3
        split at f3
        · rename_i hj
          rw [rd1.int_inv, rd2.int_inv, rd3.int_inv]
          exact ⟨i, j, k, _, rfl, ⟨hj.1.1, hj.1.2, hj.2.1, (Int.toNat_of_nonneg hj.2.2).symm⟩, f3 ι3 H3 _ (Ext.refl _ _) rs3 wk_rngC⟩
        · exact f3.elim
      | _ => exact f3.elim
    | _ => exact f3.elim
  | _ => exact f3.elim
end MI

set_option Elab.async false
set_option linter.all false
set_option maxRecDepth 100000
set_option maxHeartbeats 4000000
namespace MI
open PySem PySem.Spec PyProof.Rows L2

/-! ### [e for t in i if c for t1 in i1 if c1] -/
def inn (t1 : Tgt) (vs1 : List Nat) (mi1 : M Src) (mc1 : M Bool) (me : M D) : M (List D) := fun ρ S => (noX (mi1 ρ S)).bind fun src S1 => lcL t1 src mc1 me (wipeS ρ vs1) src.items S1
def lcL2 (t : Tgt) (src : Src) (c : M Bool) (body : M (List D)) (ρ : Sl) : List D → Store → Res (List D)
  | [], S => if src.ok S = true then .ok [] S else .no
  | d :: ds, S => if src.ok S = true then match asg t d ρ with
      | none => .no
      | some ρ1 => (noX (c ρ1 S)).bind fun b S1 => if b = true then (body ρ1 S1).bind fun ys S2 => (lcL2 t src c body ρ ds S2).bind fun zs S3 => .ok (ys ++ zs) S3
        else lcL2 t src c body ρ ds S1
    else .no
def chk (acc xs : List D) (S : Store) : Res (List D) := if (acc ++ xs).length < 16000000 then .ok (acc ++ xs) S else .no
def mLc2 (t : Tgt) (own : List Nat) (mi : M Src) (mc : M Bool) (t1 : Tgt) (vs1 : List Nat) (mi1 : M Src) (mc1 : M Bool) (me : M D) : M (List D) := fun ρ S =>
  (mi ρ S).bind fun src S1 => (noX (lcL2 t src mc (inn t1 vs1 mi1 mc1 me) (wipeS ρ own) src.items S1)).bind (chk [])
theorem noX_bind {α β : Type} {r : Res α} {f : α → Store → Res β} : noX ((noX r).bind f) = (noX r).bind fun a S => noX (f a S) := by cases r <;> rfl
theorem chk_len {K : PySem.W.Frag} {mg : Str → Option Value} {W : WX} {β : Type} {R : List Addr → Hp → List D → β → Prop} {σ : L2.St} {ι : List Addr} {H : Hp} {r : Res (List D)} {acc : List D} {Q : β → Hp → Prop} (h : FinG K mg W R σ ι H ((noX r).bind (chk acc)) Q) : acc.length < 16000000 := by
  cases r with
  | ok xs S =>
    have h : FinG K mg W R σ ι H (chk acc xs S) Q := h
    unfold chk at h
    split at h
    · rename_i z
      rw [List.length_append] at z
      omega
    · exact h.elim
  | exc c v S => exact h.elim
  | no => exact h.elim
theorem chk_shift {r : Res (List D)} {g : Store → Res (List D)} {acc : List D} {x : D} :
    (noX ((r.bind fun xs S3 => .ok (x :: xs) S3).bind fun ys S2 => (g S2).bind fun zs S3 => .ok (ys ++ zs) S3)).bind (chk acc) = (noX (r.bind fun ys S2 => (g S2).bind fun zs S3 => .ok (ys ++ zs) S3)).bind (chk (acc ++ [x])) := by
  cases r with
  | ok xs S =>
    show (noX ((g S).bind fun zs S3 => .ok (x :: xs ++ zs) S3)).bind (chk acc) = (noX ((g S).bind fun zs S3 => .ok (xs ++ zs) S3)).bind (chk (acc ++ [x]))
    cases g S with
    | ok zs S' =>
      show chk acc (x :: xs ++ zs) S' = chk (acc ++ [x]) (xs ++ zs) S'
      unfold chk
      simp
    | exc c v S => rfl
    | no => rfl
  | exc c v S => rfl
  | no => rfl
theorem chk_app {r : Res (List D)} {acc ys : List D} : (noX (r.bind fun zs S3 => .ok (ys ++ zs) S3)).bind (chk acc) = (noX r).bind (chk (acc ++ ys)) := by
  cases r with
  | ok zs S =>
    show chk acc (ys ++ zs) S = chk (acc ++ ys) zs S
    unfold chk
    simp
  | exc c v S => rfl
  | no => rfl
theorem RE.monoM {K : PySem.W.Frag} {ι ι1 : List Addr} {H H1 : Hp} {ρ : Sl} {σ : L2.St} (x : Mo ι H ι1 H1) (r : RE K ι H ρ σ) : RE K ι1 H1 ρ σ :=
  ⟨r.len, fun i d e => let ⟨v, a, b⟩ := r.at_ i d e; ⟨v, a, b.monoM x⟩⟩
theorem lc2_fin {K : PySem.W.Frag} {mg : Str → Option Value} {W : WX} {σ : L2.St} {H : Hp} {Q : VK} {t t1 : Tgt} {mi mi1 : M Src} {mc mc1 : M Bool} {me : M D} {own vs1 : List Nat} (hsub : ∀ j ∈ t.slots, j ∈ own) (hsub1 : ∀ j ∈ t1.slots, j ∈ vs1) (h : tL K mg W (mLc2 t own mi mc t1 vs1 mi1 mc1 me) σ H Q) :
    tLc2 (tI K mg W mi) (tTg K mg t) (tT K mg noW mc) (tI K mg noW mi1) (tTg K mg t1) (tT K mg noW mc1) (tE K mg noW me) own vs1 σ H Q := by
  obtain ⟨ι, ρ, S, rs, re, f⟩ := h
  unfold mLc2 at f
  refine ⟨ι, ρ, S, rs, re, ?_⟩
  cases hm : mi ρ S with
  | exc c v S1 => rw [hm] at f; exact f
  | no => rw [hm] at f; exact f
  | ok src S1 =>
    rw [hm] at f
    have f : FinG K mg W (fun ι' H' ds v => RLf K H ι' H' ds v) σ ι H ((noX (lcL2 t src mc (inn t1 vs1 mi1 mc1 me) (wipeS ρ own) src.items S1)).bind (chk [])) Q := f
    intro ι1 H1 J x1 rs1 wk L hL
    have reW := (re.mono x1).wipe own
    have hL0 : H L = none := by
      cases q : H L with
      | none => rfl
      | some o =>
        by_cases hi : L ∈ ι
        · obtain ⟨i, hi', e⟩ := List.getElem_of_mem hi
          have e1 : ι1[i]? = some L := x1.at (by rw [List.getElem?_eq_getElem hi', e])
          exact absurd (List.mem_of_getElem? e1) (rs1.fresh hL)
        · rw [x1.keep L o q hi] at hL; cases hL
    have nL : L ∉ ι1 := rs1.fresh hL
    refine ⟨fun i m H2 => i + m = src.items.length ∧ ∃ ι2 S2 acc vs, Ext ι H ι2 H2 ∧ Ext ι1 H1 ι2 H2 ∧ RS K mg ι2 S2 H2 ∧ L ∉ ι2 ∧ H2 L = some (.lst vs) ∧ RDs K ι2 H2 acc vs ∧
      FinG K mg W (fun ι' H' ds v => RLf K H ι' H' ds v) σ ι H ((noX (lcL2 t src mc (inn t1 vs1 mi1 mc1 me) (wipeS ρ own) (src.items.drop i) S2)).bind (chk acc)) Q, ?_, ?_⟩
    · exact ⟨src.items.length, by omega, ι1, S1, [], [], x1.side hL0, (Ext.refl ι1 H1).side hL, rs1.new0 hL, nL, upd_same, .nil, by rw [List.drop_zero]; exact f⟩
    · rintro i m H2 ⟨him, ι2, S2, acc, vs, x0, x2, rs2, n2, hL2, ra, g⟩
      by_cases hi : i < src.items.length
      · rw [List.drop_eq_getElem_cons hi] at g
        unfold lcL2 at g
        split at g
        · rename_i hok
          obtain ⟨_, hgo⟩ := wk ι2 S2 H2 x2.mo rs2 hok i
          obtain ⟨go, hy⟩ := hgo _ (List.getElem?_eq_getElem hi)
          refine .inr ⟨go, fun H' => ∃ ι2 S2 acc vs, Ext ι H ι2 H' ∧ Ext ι1 H1 ι2 H' ∧ RS K mg ι2 S2 H' ∧ L ∉ ι2 ∧ H' L = some (.lst vs) ∧ RDs K ι2 H' acc vs ∧
            FinG K mg W (fun ι' H' ds v => RLf K H ι' H' ds v) σ ι H ((noX (lcL2 t src mc (inn t1 vs1 mi1 mc1 me) (wipeS ρ own) (src.items.drop (i + 1)) S2)).bind (chk acc)) Q, fun H' hN => ⟨m - 1, by omega, by omega, hN⟩, fun v H3 hyl => ?_⟩
          obtain ⟨x3, rs3, rd3⟩ := hy v H3 hyl
          cases ha : asg t src.items[i] (wipeS ρ own) with
          | none => rw [ha] at g; exact g.elim
          | some ρ1 =>
            rw [ha] at g
            simp only [noX_bind, Res.bind_assoc] at g
            refine ⟨ι2, _, S2, _, ρ1, rs3, reW.mono (x2.trans x3), rd3, ha, fun σ3 re3 off => ⟨?_, ?_⟩⟩
            · have e := offs_wipe (vs := own) (σ := L2.wipe σ own) (σ' := σ3) ⟨off.1, fun j hj => off.2 j fun z => hj (hsub j z)⟩
              rw [e, wipe_wipe]
            · refine ⟨ι2, ρ1, S2, rs3, re3, FinG.imp (fin_noX (R := fun _ _ b c => b = c) g) fun b H4 ⟨b', S4, ι4, x4, rs4, eb, g4⟩ => ?_⟩
              subst eb
              obtain ⟨hL3, n3⟩ := (x3.stays hL2 n2)
              obtain ⟨hL4, n4⟩ := (x4.stays hL3 n3)
              have xa := (x0.trans x3).trans x4
              have xb := (x2.trans x3).trans x4
              have ra4 := (ra.mono x3).mono x4
              cases b' with
              | false =>
                simp only [Bool.false_eq_true, if_false] at g4 ⊢
                exact ⟨ι4, S4, acc, vs, xa, xb, rs4, n4, hL4, ra4, g4⟩
              | true =>
                simp only [if_true] at g4 ⊢
                unfold inn at g4
                simp only [noX_bind, Res.bind_assoc] at g4
                refine ⟨ι4, ρ1, S4, rs4, re3.mono x4, FinG.imp (fin_noX (R := fun ι H src J => Wk K mg ι H src J) g4) fun J1 H5 ⟨src1, S5, ι5, x5, rs5, wk1, g5⟩ => ?_⟩
                obtain ⟨hL5, n5⟩ := (x5.stays hL4 n4)
                have re5 := (re3.mono x4).mono x5
                have reW1 := re5.wipe vs1
                refine ⟨fun j k H6 => j + k = src1.items.length ∧ ∃ ι6 S6 acc6 vs6, Ext ι H ι6 H6 ∧ Ext ι1 H1 ι6 H6 ∧ Mo ι5 H5 ι6 H6 ∧ RS K mg ι6 S6 H6 ∧ L ∉ ι6 ∧ H6 L = some (.lst vs6) ∧ RDs K ι6 H6 acc6 vs6 ∧
                  FinG K mg W (fun ι' H' ds v => RLf K H ι' H' ds v) σ ι H ((noX ((lcL t1 src1 mc1 me (wipeS ρ1 vs1) (src1.items.drop j) S6).bind fun ys S2 => (lcL2 t src mc (inn t1 vs1 mi1 mc1 me) (wipeS ρ own) (src.items.drop (i + 1)) S2).bind fun zs S3 => .ok (ys ++ zs) S3)).bind (chk acc6)) Q, ⟨src1.items.length, by omega, ι5, S5, acc, vs, xa.trans x5, xb.trans x5, (Ext.refl _ _).mo, rs5, n5, hL5, ra4.mono x5, by rw [List.drop_zero]; exact g5⟩, ?_⟩
                rintro j k H6 ⟨hjk, ι6, S6, acc6, vs6, y0, y1, y5, rs6, n6, hL6, ra6, g6⟩
                by_cases hj : j < src1.items.length
                · rw [List.drop_eq_getElem_cons hj] at g6
                  unfold lcL at g6
                  split at g6
                  · rename_i hok1
                    obtain ⟨_, hgo1⟩ := wk1 ι6 S6 H6 y5 rs6 hok1 j
                    obtain ⟨go1, hy1⟩ := hgo1 _ (List.getElem?_eq_getElem hj)
                    refine .inr ⟨go1, fun H' => ∃ ι6 S6 acc6 vs6, Ext ι H ι6 H' ∧ Ext ι1 H1 ι6 H' ∧ Mo ι5 H5 ι6 H' ∧ RS K mg ι6 S6 H' ∧ L ∉ ι6 ∧ H' L = some (.lst vs6) ∧ RDs K ι6 H' acc6 vs6 ∧
                      FinG K mg W (fun ι' H' ds v => RLf K H ι' H' ds v) σ ι H ((noX ((lcL t1 src1 mc1 me (wipeS ρ1 vs1) (src1.items.drop (j + 1)) S6).bind fun ys S2 => (lcL2 t src mc (inn t1 vs1 mi1 mc1 me) (wipeS ρ own) (src.items.drop (i + 1)) S2).bind fun zs S3 => .ok (ys ++ zs) S3)).bind (chk acc6)) Q, fun H' hN => ⟨k - 1, by omega, by omega, hN⟩, fun v7 H7 hyl7 => ?_⟩
                    obtain ⟨x7, rs7, rd7⟩ := hy1 v7 H7 hyl7
                    cases ha1 : asg t1 src1.items[j] (wipeS ρ1 vs1) with
                    | none => rw [ha1] at g6; exact g6.elim
                    | some ρ3 =>
                      rw [ha1] at g6
                      have g6 : FinG K mg W (fun ι' H' ds v => RLf K H ι' H' ds v) σ ι H ((noX (((noX (mc1 ρ3 S6)).bind fun b S1 => if b = true then (noX (me ρ3 S1)).bind fun x S2 => (lcL t1 src1 mc1 me (wipeS ρ1 vs1) (src1.items.drop (j + 1)) S2).bind fun xs S3 => .ok (x :: xs) S3
                        else lcL t1 src1 mc1 me (wipeS ρ1 vs1) (src1.items.drop (j + 1)) S1).bind fun ys S2 => (lcL2 t src mc (inn t1 vs1 mi1 mc1 me) (wipeS ρ own) (src.items.drop (i + 1)) S2).bind fun zs S3 => .ok (ys ++ zs) S3)).bind (chk acc6)) Q := g6
                      rw [Res.bind_assoc, noX_bind, Res.bind_assoc] at g6
                      refine ⟨ι6, _, S6, _, ρ3, rs7, (reW1.monoM (y5.trans x7.mo)), rd7, ha1, fun σ8 re8 off8 => ⟨?_, ?_⟩⟩
                      · have e := offs_wipe (vs := vs1) (σ := L2.wipe σ3 vs1) (σ' := σ8) ⟨off8.1, fun j hj => off8.2 j fun z => hj (hsub1 j z)⟩
                        rw [e, wipe_wipe]
                      · refine ⟨ι6, ρ3, S6, rs7, re8, FinG.imp (fin_noX (R := fun _ _ b c => b = c) g6) fun b H8 ⟨b8, S8, ι8, x8, rs8, eb8, g8⟩ => ?_⟩
                        subst eb8
                        obtain ⟨hL7, n7⟩ := (x7.stays hL6 n6)
                        obtain ⟨hL8, n8⟩ := (x8.stays hL7 n7)
                        have z0 := (y0.trans x7).trans x8
                        have z1 := (y1.trans x7).trans x8
                        have z5 := (y5.trans x7.mo).trans x8.mo
                        have ra8 := (ra6.mono x7).mono x8
                        cases b8 with
                        | false =>
                          simp only [Bool.false_eq_true, if_false] at g8 ⊢
                          exact ⟨ι8, S8, acc6, vs6, z0, z1, z5, rs8, n8, hL8, ra8, g8⟩
                        | true =>
                          simp only [if_true] at g8 ⊢
                          rw [Res.bind_assoc, noX_bind, Res.bind_assoc] at g8
                          refine ⟨ι8, ρ3, S8, rs8, re8.mono x8, FinG.imp (fin_noX (R := fun ι H d v => RD K ι H d v) g8) fun y H9 ⟨d, S9, ι9, x9, rs9, rd9, g9⟩ => ?_⟩
                          obtain ⟨hL9, n9⟩ := (x9.stays hL8 n8)
                          have ra9 := ra8.mono x9
                          have len := chk_len g9
                          rw [chk_shift] at g9
                          refine ⟨vs6, hL9, by rw [← ra6.length, sizeLine_eq]; omega, ι9, S9, acc6 ++ [d], vs6 ++ [y], (z0.trans x9).side hL0, (z1.trans x9).side hL, (z5.trans x9.mo).trans (Mo.side hL9), rs9.side hL9 n9, n9, upd_same, (RDs.monoM (Mo.side hL9) ra9).snoc (RD.monoM (Mo.side hL9) rd9), g9⟩
                  · exact g6.elim
                · rw [List.drop_eq_nil_of_le (by omega)] at g6
                  unfold lcL at g6
                  split at g6
                  · rename_i hok1
                    obtain ⟨hstop1, _⟩ := wk1 ι6 S6 H6 y5 rs6 hok1 j
                    refine .inl ⟨hstop1 (by omega), ι6, S6, acc6, vs6, y0, y1, rs6, n6, hL6, ra6, ?_⟩
                    have g6 : FinG K mg W (fun ι' H' ds v => RLf K H ι' H' ds v) σ ι H ((noX ((lcL2 t src mc (inn t1 vs1 mi1 mc1 me) (wipeS ρ own) (src.items.drop (i + 1)) S6).bind fun zs S3 => .ok ([] ++ zs) S3)).bind (chk acc6)) Q := g6
                    rw [chk_app, List.append_nil] at g6
                    exact g6
                  · exact g6.elim
        · exact g.elim
      · rw [List.drop_eq_nil_of_le (by omega)] at g
        unfold lcL2 at g
        split at g
        · rename_i hok
          obtain ⟨hstop, _⟩ := wk ι2 S2 H2 x2.mo rs2 hok i
          refine .inl ⟨hstop (by omega), ?_⟩
          have g : FinG K mg W (fun ι' H' ds v => RLf K H ι' H' ds v) σ ι H (chk acc [] S2) Q := g
          unfold chk at g
          split at g
          · rw [List.append_nil] at g
            exact g ι2 H2 _ x0 rs2 ⟨L, vs, rfl, hL0, n2, hL2, ra⟩
          · exact g.elim
        · exact g.elim
section
variable {X : Cx} {W : WX}
theorem j_lc2 {elt tg iter tg1 iter1 : Expr} {ifs ifs1 : List Expr} {scope : Scope} {pos : Pos} {t t1 : Tgt} {mi mi1 : M Src} {mc mc1 : M Bool} {me : M D} (own : List (Str × Nat)) (vs1 : List Nat) (hc : X.calm = true) (hN : X.N.Nodup) (hi : JI X W tg iter mi) (ok : BlkOk X.N X.env.scope scope own) (hv : ∀ i ∈ vs1, i ∈ own.map (·.2))
    (hg : ∀ (s : Shared) (H : Hp) (C : Addr) (cl : List (Str × Addr)) (fp : List Addr), JG (X.blk s H scope (compEnvC scope cl C X.env) fp) tg t) (ht : ∀ (s : Shared) (H : Hp) (C : Addr) (cl : List (Str × Addr)) (fp : List Addr), JC (X.blk s H scope (compEnvC scope cl C X.env) fp) noW ifs mc)
    (hi1 : ∀ (s : Shared) (H : Hp) (C : Addr) (cl : List (Str × Addr)) (fp : List Addr), JI (X.blk s H scope (compEnvC scope cl C X.env) fp) noW tg1 iter1 mi1)
    (hg1 : ∀ (s : Shared) (H : Hp) (C : Addr) (cl : List (Str × Addr)) (fp : List Addr), JG (X.blk s H scope (compEnvC scope cl C X.env) fp) tg1 t1) (ht1 : ∀ (s : Shared) (H : Hp) (C : Addr) (cl : List (Str × Addr)) (fp : List Addr), JC (X.blk s H scope (compEnvC scope cl C X.env) fp) noW ifs1 mc1)
    (he : ∀ (s : Shared) (H : Hp) (C : Addr) (cl : List (Str × Addr)) (fp : List Addr), JE (X.blk s H scope (compEnvC scope cl C X.env) fp) noW elt me) (hsub : ∀ j ∈ t.slots, j ∈ own.map (·.2)) (hsub1 : ∀ j ∈ t1.slots, j ∈ vs1) (hs : ∀ x, foldedSetIterable iter X.env x = pure x := by intro _; rfl) (hs1 : ∀ env x, foldedSetIterable iter1 env x = pure x := by intro _ _; rfl) :
    JL X W (.ListComp elt [⟨tg, iter, ifs, 0⟩, ⟨tg1, iter1, ifs1, 0⟩] scope pos) (mLc2 t (own.map (·.2)) mi mc t1 vs1 mi1 mc1 me) :=
  (pe_lc2 hc hN hi ok hv hg ht hi1 hg1 ht1 he hs hs1 : PE X (.ListComp elt [⟨tg, iter, ifs, 0⟩, ⟨tg1, iter1, ifs1, 0⟩] scope pos) (tLc2 (tI X.K X.mg W mi) (tTg X.K X.mg t) (tT X.K X.mg noW mc) (tI X.K X.mg noW mi1) (tTg X.K X.mg t1) (tT X.K X.mg noW mc1) (tE X.K X.mg noW me) (own.map (·.2)) vs1)).imp fun σ H Q h => lc2_fin hsub hsub1 h
end
end MI

set_option Elab.async false
set_option linter.all false
set_option maxRecDepth 100000
set_option maxHeartbeats 4000000
namespace MI
open PySem PySem.Spec PyProof.Rows L2

/-! ### x, y, z = a, b, c -/
def sPar3 (i j l : Nat) (a b c : M D) : MS := fun ρ S => SR.bindR (a ρ S) ρ fun x S1 => SR.bindR (b ρ S1) ρ fun y S2 => SR.bindR (c ρ S2) ρ fun z S3 => .next (((ρ.set i (some x)).set j (some y)).set l (some z)) S3
theorem js_par3 {X : Cx} {W : WX} {a b c : Expr} {m1 m2 m3 : M D} {pos : Pos} (i j l : Nat) {x y z : Str} {px py pz pt : Pos} {kt k2 pt2} (hc : X.calm = true) (hN : X.N.Nodup) (hi : X.N[i]? = some x) (hj : X.N[j]? = some y) (hl : X.N[l]? = some z) (hij : i ≠ j) (hil : i ≠ l) (hjl : j ≠ l)
    (hx : X.env.scope.names.lookup x = some .local) (hy : X.env.scope.names.lookup y = some .local) (hz : X.env.scope.names.lookup z = some .local) (ha : JE X W a m1) (hb : JE X W b m2) (hc3 : JE X W c m3)
    (hw : swappedStores [.Tuple [.Name x px, .Name y py, .Name z pz] kt pt] (.Tuple [a, b, c] k2 pt2) X.env = pure (some [x, y, z]))
    (hs : swapsWithSole [.Tuple [.Name x px, .Name y py, .Name z pz] kt pt] (.Tuple [a, b, c] k2 pt2) pos.line X.env = pure false := by rfl) (hs0 : starEach [a, b, c] X.env = (false, eval a X.env) :: starEach [b, c] X.env := by rfl) (hs1 : starEach [b, c] X.env = (false, eval b X.env) :: starEach [c] X.env := by rfl) (hs2 : starEach [c] X.env = (false, eval c X.env) :: starEach [] X.env := by rfl) :
    JS X W (.Assign [.Tuple [.Name x px, .Name y py, .Name z pz] kt pt] (.Tuple [a, b, c] k2 pt2) pos) (sPar3 i j l m1 m2 m3) := (ps_par3 hc hN hi hj hl hij hil hjl hx hy hz (pa_cons ha (pa_cons hb (pa_cons hc3 pa_nil hs2) hs1) hs0) hw hs).imp fun Dn σ H h => by
  obtain ⟨ι, ρ, S, rs, re, f⟩ := tS_seq (R := fun ι H d v => RD X.K ι H d v) (m := m1) (k := fun ρ x S1 => SR.bindR (m2 ρ S1) ρ fun y S2 => SR.bindR (m3 ρ S2) ρ fun z S3 => .next (((ρ.set i (some x)).set j (some y)).set l (some z)) S3) h
  refine ⟨ι, ρ, S, rs, re, f.imp fun x H1 ⟨ι1, ρ1, d, S1, rs1, re1, rd1, f1⟩ => ⟨ι1, ρ1, S1, rs1, re1, FinG.imp (f1.bindR re1) fun y H2 ⟨e, S2, ι2, y2, rs2, rd2, f2⟩ => ⟨ι2, ρ1, S2, rs2, re1.mono y2, FinG.imp (f2.bindR (re1.mono y2)) fun z H3 ⟨g, S3, ι3, y3, rs3, rd3, f3⟩ => ?_⟩⟩⟩
  exact ⟨x, y, z, rfl, f3 ι3 H3 _ (Ext.refl _ _) rs3 (((((re1.mono y2).mono y3).set i ((rd1.mono y2).mono y3)).set j (rd2.mono y3)).set l rd3)⟩
end MI

set_option Elab.async false
set_option linter.all false
set_option maxRecDepth 100000
set_option maxHeartbeats 4000000
namespace MI.K02
open PySem PySem.Spec PyProof.Rows L2 MI
abbrev topS (i : Nat) : Stmt := PySem.Challenge.pw_caskyears_k02_tables_one_behind_the_othe.main.body.getD i (.Pass ⟨0, 0, 0, 0⟩)
def errNames : List Str := ["Unlike", "InvalidTable", "InvalidNumber"]
def sub_InvalidNumber (c : Str) : Bool := c == "InvalidNumber"
def sub_InvalidTable (c : Str) : Bool := c == "InvalidTable"
def sub_Unlike (c : Str) : Bool := c == "Unlike"
def cat_CaskError (c : Str) : Option Bool := if c ∈ errNames then some (true) else none
def d_ONE : List D := [.int 1, .int 1]
def d_ZERO : List D := [.int 0, .int 1]
def mDict0 : M D := fun _ S => .ok (.ref S.length) (S ++ [.dct []])
theorem bt_abs : bootBuiltins "abs" = some (.builtin "abs") := by decide +kernel
theorem bt_all : bootBuiltins "all" = some (.builtin "all") := by decide +kernel
theorem bt_bool : bootBuiltins "bool" = some (.type "bool") := by decide +kernel
theorem bt_int : bootBuiltins "int" = some (.type "int") := by decide +kernel
theorem bt_isinstance : bootBuiltins "isinstance" = some (.builtin "isinstance") := by decide +kernel
theorem bt_len : bootBuiltins "len" = some (.builtin "len") := by decide +kernel
theorem bt_list : bootBuiltins "list" = some (.type "list") := by decide +kernel
theorem bt_max : bootBuiltins "max" = some (.builtin "max") := by decide +kernel
theorem bt_repr : bootBuiltins "repr" = some (.builtin "repr") := by decide +kernel
theorem bt_sum : bootBuiltins "sum" = some (.builtin "sum") := by decide +kernel
theorem bt_tuple : bootBuiltins "tuple" = some (.type "tuple") := by decide +kernel
def b_drop : MS := sSeq (sIf (mTst (mOp gGt (mOp gIx (mV 0) (mC (.int 0))) (mC (.int 0)))) (sSeq (sAsg (.nm 2) (mOp gMod (mApp gInt (mCons (mOp gIx (mV 0) (mC (.int 0))) (mNil))) (mV 1))) (sSeq (sSet (mV 0) (mC (.int 0)) (mOp gDiv (mOp gIx (mV 0) (mC (.int 0))) (mV 1))) (sRet (mV 2)))) (sPass)) (sSeq (sSet (mV 0) (mC (.int 2)) (mOp gAdd (mOp gIx (mV 0) (mC (.int 2))) (mC (.int 1)))) (sSeq (sAsg (.nm 3) (mOp gMod (mApp gInt (mCons (mOp gPow (mOp gAdd (mOp gIx (mV 0) (mC (.int 1))) (mOp gMul (mOp gIx (mV 0) (mC (.int 2))) (mC (.int 17624813)))) (mC (.int 3))) (mNil))) (mOp gAdd (mOp gPow (mC (.int 10)) (mC (.int 27))) (mC (.int 103))))) (sRet (mOp gMod (mOp gDiv (mOp gMod (mApp gInt (mCons (mOp gAdd (mOp gPow (mV 3) (mC (.int 2))) (mOp gDiv (mV 3) (mC (.int 7907)))) (mNil))) (mOp gAdd (mOp gPow (mC (.int 10)) (mC (.int 23))) (mC (.int 117)))) (mC (.int 10007))) (mV 1)))))
def f_drop : List D → Store → Res D := fnOf 4 b_drop
def b_column : MS := sSeq (sAsg (.nm 3) (mOp gMul (mApp gLst (mCons (mC (.int 0)) (mNil))) (mV 1))) (sSeq (sAsg (.nm 4) (mApp f_drop (mCons (mV 0) (mCons (mC (.int 6)) (mNil))))) (sSeq (sAsg (.nm 5) (mApp f_drop (mCons (mV 0) (mCons (mV 1) (mNil))))) (sSeq (sIf (mTst (mOp gEq (mV 4) (mC (.int 0)))) (sSeq (sSet (mV 3) (mV 5) (mV 2)) (sRet (mV 3))) (sPass)) (sSeq (sAsg (.nm 6) (mV 2)) (sSeq (sFor (.nm 7) (mRng1 (mOp gMul (mV 1) (mApp gInt (mCons (mOp gGt (mV 4) (mC (.int 1))) (mNil))))) (sSeq (sSet (mV 3) (mOp gMod (mApp gInt (mCons (mOp gAdd (mV 5) (mV 7)) (mNil))) (mV 1)) (mApp f_drop (mCons (mV 0) (mCons (mOp gAdd (mV 6) (mC (.int 1))) (mNil))))) (sAsg (.nm 6) (mOp gSub (mV 6) (mOp gIx (mV 3) (mOp gMod (mApp gInt (mCons (mOp gAdd (mV 5) (mV 7)) (mNil))) (mV 1))))))) (sSeq (sIf (mTst (mOp gGt (mV 4) (mC (.int 3)))) (sSet (mV 3) (mV 5) (mOp gAdd (mOp gIx (mV 3) (mV 5)) (mV 6))) (sPass)) (sRet (mV 3))))))))
def f_column : List D → Store → Res D := fnOf 8 b_column
def b_draw : MS := sSeq (sAsg (.nm 2) (mBox (mLc (.nm 3) [3] (mRng1 (mV 1)) (mYes) (mOp gIx (mApp gLst (mCons (mC (.int 2)) (mCons (mC (.int 3)) (mCons (mC (.int 4)) (mCons (mC (.int 12)) (mCons (mOp gPow (mC (.int 10)) (mC (.int 9))) (mCons (mOp gPow (mC (.int 10)) (mC (.int 38))) (mNil)))))))) (mApp f_drop (mCons (mV 0) (mCons (mOp gSub (mC (.int 6)) (mOp gMul (mC (.int 2)) (mApp gInt (mCons (mOp gGt (mV 1) (mC (.int 5))) (mNil))))) (mNil)))))))) (sSeq (sAsg (.nm 4) (mBox (mLc (.nm 5) [5] (mSrc (mV 2)) (mYes) (mApp f_column (mCons (mV 0) (mCons (mV 1) (mCons (mV 5) (mNil)))))))) (sRet (mApp gTup (mCons (mV 4) (mCons (mV 2) (mNil))))))
def f_draw : List D → Store → Res D := fnOf 6 b_draw
def b_low : MS := sSeq (sAsg (.nm 2) (mApp gAbs (mCons (mV 0) (mNil)))) (sSeq (sAsg (.nm 3) (mV 1)) (sSeq (sFor (.nm 4) (mRng1 (mC (.int 20000))) (sSeq (sIf (mTst (mOp gEq (mV 3) (mC (.int 0)))) (sBrk) (sPass)) (sPar 2 3 (mV 3) (mOp gMod (mApp gInt (mCons (mV 2) (mNil))) (mV 3))))) (sRet (mApp gTup (mCons (mOp gDiv (mV 0) (mV 2)) (mCons (mOp gDiv (mV 1) (mV 2)) (mNil)))))))
def f_low : List D → Store → Res D := fnOf 5 b_low
def b_table_of : MS := sSeq (sAsg (.nm 2) (mApp gLst (mNil))) (sSeq (sFor (.nm 3) (mRng1 (mApp gLen (mCons (mV 0) (mNil)))) (sExpr (mMt gApp (mV 2) (mCons (mL gTupL (mLc (.nm 4) [4] (mRng1 (mApp gLen (mCons (mV 0) (mNil)))) (mYes) (mApp f_low (mCons (mOp gIx (mOp gIx (mV 0) (mV 4)) (mV 3)) (mCons (mOp gIx (mV 1) (mV 4)) (mNil)))))) mNil)))) (sRet (mApp gTuple (mCons (mV 2) (mNil)))))
def f_table_of : List D → Store → Res D := fnOf 5 b_table_of
def b_entry_put : MS := sSeq (sAsg (.nm 4) (mOp gAdd (mOp gAdd (mSlice (mOp gIx (mV 0) (mV 1)) (none) (some (mV 2))) (mApp gTup (mCons (mV 3) (mNil)))) (mSlice (mOp gIx (mV 0) (mV 1)) (some (mOp gAdd (mV 2) (mC (.int 1)))) (none)))) (sRet (mOp gAdd (mOp gAdd (mSlice (mV 0) (none) (some (mV 1))) (mApp gTup (mCons (mV 4) (mNil)))) (mSlice (mV 0) (some (mOp gAdd (mV 1) (mC (.int 1)))) (none))))
def f_entry_put : List D → Store → Res D := fnOf 5 b_entry_put
def b_spoilt : MS := sSeq (sAsg (.nm 4) (mApp gLen (mCons (mV 3) (mNil)))) (sSeq (sAsg (.nm 5) (mApp f_drop (mCons (mV 0) (mCons (mV 4) (mNil))))) (sSeq (sAsg (.nm 6) (mApp f_drop (mCons (mV 0) (mCons (mV 4) (mNil))))) (sSeq (sAsg (.tp [.nm 7, .nm 8]) (mOp gIx (mOp gIx (mV 3) (mV 5)) (mV 6))) (sSeq (sAsg (.nm 9) (mOp gSub (mOp gIx (mV 2) (mV 6)) (mApp (gSq gSum) (mCons (mOp gIx (mV 1) (mV 6)) (mNil))))) (sSeq (sAsg (.nm 10) (mApp f_low (mCons (mOp gAdd (mOp gAdd (mOp gIx (mOp gIx (mV 1) (mV 6)) (mV 5)) (mV 9)) (mC (.int 1))) (mCons (mOp gIx (mV 2) (mV 6)) (mNil))))) (sSeq (sAsg (.nm 11) (mApp gLst (mCons (mV 10) (mCons (mV 10) (mCons (mApp gTup (mCons (mOp gSub (mOp gSub (mC (.int 0)) (mC (.int 1))) (mV 7)) (mCons (mV 8) (mNil)))) (mCons (mApp gTup (mCons (mOp gMul (mC (.int 2)) (mV 7)) (mCons (mOp gMul (mC (.int 2)) (mV 8)) (mNil)))) (mCons (mC (.bl true)) (mCons (mC (.int 0)) (mCons (mC .non) (mCons (mApp gLst (mCons (mV 7) (mCons (mV 8) (mNil)))) (mCons (mApp gTup (mCons (mV 7) (mNil))) (mNil)))))))))))) (sSeq (sAsg (.nm 12) (mApp f_drop (mCons (mV 0) (mCons (mOp gAdd (mApp gLen (mCons (mV 11) (mNil))) (mC (.int 9))) (mNil))))) (sSeq (sIf (mTst (mOp gLt (mV 12) (mApp gLen (mCons (mV 11) (mNil))))) (sRet (mApp f_entry_put (mCons (mV 3) (mCons (mV 5) (mCons (mV 6) (mCons (mOp gIx (mV 11) (mV 12)) (mNil))))))) (sPass)) (sSeq (sAsg (.nm 13) (mOp gAdd (mOp gAdd (mSlice (mV 3) (none) (some (mV 5))) (mApp gTup (mCons (mOp gAdd (mSlice (mOp gIx (mV 3) (mV 5)) (none) (some (mV 6))) (mSlice (mOp gIx (mV 3) (mV 5)) (some (mOp gAdd (mV 6) (mC (.int 1)))) (none))) (mNil)))) (mSlice (mV 3) (some (mOp gAdd (mV 5) (mC (.int 1)))) (none)))) (sSeq (sAsg (.nm 14) (mOp gAdd (mOp gAdd (mSlice (mV 3) (none) (some (mV 5))) (mApp gTup (mCons (mApp gList (mCons (mOp gIx (mV 3) (mV 5)) (mNil))) (mNil)))) (mSlice (mV 3) (some (mOp gAdd (mV 5) (mC (.int 1)))) (none)))) (sSeq (sAsg (.nm 15) (mApp gLst (mCons (mApp gList (mCons (mV 3) (mNil))) (mCons (mOp gAdd (mSlice (mV 3) (none) (some (mV 5))) (mSlice (mV 3) (some (mOp gAdd (mV 5) (mC (.int 1)))) (none))) (mCons (mOp gAdd (mV 3) (mApp gTup (mCons (mOp gIx (mV 3) (mV 5)) (mNil)))) (mCons (mV 13) (mCons (mV 14) (mCons (mC .non) (mCons (mApp gTup (mNil)) (mCons (mOp gIx (mOp gIx (mV 3) (mV 5)) (mV 6)) (mCons (mC (.str "1")) (mNil)))))))))))) (sSeq (sAsg (.nm 15) (mOp gAdd (mV 15) (mApp gLst (mCons (mApp f_table_of (mCons (mBox (mLc (.nm 17) [17] (mRng1 (mC (.int 9))) (mYes) (mBox (mLc (.nm 16) [16] (mRng1 (mC (.int 9))) (mYes) (mApp gInt (mCons (mOp gEq (mV 16) (mV 17)) (mNil))))))) (mCons (mOp gMul (mApp gLst (mCons (mC (.int 1)) (mNil))) (mC (.int 9))) (mNil)))) (mCons (mOp gMul (mApp gTup (mCons (mOp gMul (mApp gTup (mCons (mApp gTup (mCons (mC (.int 0)) (mCons (mC (.int 1)) (mNil)))) (mNil))) (mC (.int 9))) (mNil))) (mC (.int 9))) (mNil)))))) (sRet (mOp gIx (mV 15) (mApp f_drop (mCons (mV 0) (mCons (mApp gLen (mCons (mV 15) (mNil))) (mNil))))))))))))))))))
def f_spoilt : List D → Store → Res D := fnOf 18 b_spoilt
def b_is_integer : MS := sRet (mAndV (mUn (gIsTy "int") (mV 0)) (mNotV (mUn (gIsTy "bool") (mV 0))))
def f_is_integer : List D → Store → Res D := fnOf 1 b_is_integer
def b_is_fraction : MS := sSeq (sIf (mOr (mNot (mTru (mUn (gIsTy "tuple") (mV 0)))) (mTst (mOp gNe (mApp gLen (mCons (mV 0) (mNil))) (mC (.int 2))))) (sRet (mC (.bl false))) (sPass)) (sSeq (sIf (mOr (mNot (mTru (mApp f_is_integer (mCons (mOp gIx (mV 0) (mC (.int 0))) (mNil))))) (mNot (mTru (mApp f_is_integer (mCons (mOp gIx (mV 0) (mC (.int 1))) (mNil)))))) (sRet (mC (.bl false))) (sPass)) (sRet (mAndV (mOp gGe (mOp gIx (mV 0) (mC (.int 1))) (mC (.int 1))) (mOp gEq (mApp gGcd (mCons (mOp gIx (mV 0) (mC (.int 0))) (mCons (mOp gIx (mV 0) (mC (.int 1))) (mNil)))) (mC (.int 1))))))
def f_is_fraction : List D → Store → Res D := fnOf 1 b_is_fraction
def b_is_from_zero : MS := sRet (mAndV (mApp f_is_fraction (mCons (mV 0) (mNil))) (mOp gGe (mOp gIx (mV 0) (mC (.int 0))) (mC (.int 0))))
def f_is_from_zero : List D → Store → Res D := fnOf 1 b_is_from_zero
def b_is_share : MS := sRet (mAndV (mApp f_is_from_zero (mCons (mV 0) (mNil))) (mOp gLe (mOp gIx (mV 0) (mC (.int 0))) (mOp gIx (mV 0) (mC (.int 1)))))
def f_is_share : List D → Store → Res D := fnOf 1 b_is_share
def b_is_table_row : MS := sRet (mAndV (mUn (gIsTy "tuple") (mV 0)) (mAndV (mOp gEq (mApp gLen (mCons (mV 0) (mNil))) (mV 1)) (mL gAll (mLc (.nm 2) [2] (mSrc (mV 0)) (mYes) (mApp f_is_from_zero (mCons (mV 2) (mNil)))))))
def f_is_table_row : List D → Store → Res D := fnOf 3 b_is_table_row
def b_reduced : MS := sSeq (sAsg (.nm 2) (mApp gGcd (mCons (mV 0) (mCons (mV 1) (mNil))))) (sSeq (sIf (mTst (mOp gLt (mV 1) (mC (.int 0)))) (sAsg (.nm 2) (mUn gNeg (mV 2))) (sPass)) (sRet (mApp gTup (mCons (mOp gDiv (mV 0) (mV 2)) (mCons (mOp gDiv (mV 1) (mV 2)) (mNil))))))
def f_reduced : List D → Store → Res D := fnOf 3 b_reduced
def b_added : MS := sRet (mApp f_reduced (mCons (mOp gAdd (mOp gMul (mOp gIx (mV 0) (mC (.int 0))) (mOp gIx (mV 1) (mC (.int 1)))) (mOp gMul (mOp gIx (mV 1) (mC (.int 0))) (mOp gIx (mV 0) (mC (.int 1))))) (mCons (mOp gMul (mOp gIx (mV 0) (mC (.int 1))) (mOp gIx (mV 1) (mC (.int 1)))) (mNil))))
def f_added : List D → Store → Res D := fnOf 2 b_added
def b_total : MS := sSeq (sAsg (.nm 1) (mC (.tup d_ZERO))) (sSeq (sFor (.nm 2) (mSrc (mV 0)) (sAsg (.nm 1) (mApp f_added (mCons (mV 1) (mCons (mV 2) (mNil)))))) (sRet (mV 1)))
def f_total : List D → Store → Res D := fnOf 3 b_total
def b_column_sums : MS := sRet (mBox (mLc (.nm 2) [2] (mRng1 (mApp gLen (mCons (mV 0) (mNil)))) (mYes) (mApp f_total (mCons (mBox (mLc (.nm 1) [1] (mSrc (mV 0)) (mYes) (mOp gIx (mV 1) (mV 2)))) (mNil)))))
def f_column_sums : List D → Store → Res D := fnOf 3 b_column_sums
def b_is_table : MS := sSeq (sIf (mOr (mNot (mTru (mUn (gIsTy "tuple") (mV 0)))) (mNot (mTst (mChain gLe gLe (mC (.int 1)) (mApp gLen (mCons (mV 0) (mNil))) (mC (.int 8)))))) (sRet (mC (.bl false))) (sPass)) (sSeq (sIf (mNot (mTru (mL gAll (mLc (.nm 1) [1] (mSrc (mV 0)) (mYes) (mApp f_is_table_row (mCons (mV 1) (mCons (mApp gLen (mCons (mV 0) (mNil))) (mNil)))))))) (sRet (mC (.bl false))) (sPass)) (sRet (mL gAll (mLc (.nm 2) [2] (mSrc (mApp f_column_sums (mCons (mV 0) (mNil)))) (mYes) (mApp f_is_share (mCons (mV 2) (mNil)))))))
def f_is_table : List D → Store → Res D := fnOf 3 b_is_table
def b_built_anew (rec : List D → Store → Res D) : MS := sSeq (sIf (mTru (mUn (gIsTy "list") (mV 0))) (sRet (mBox (mLc (.nm 1) [1] (mSrc (mV 0)) (mYes) (mApp rec (mCons (mV 1) (mNil)))))) (sPass)) (sSeq (sIf (mTru (mUn (gIsTy "tuple") (mV 0))) (sRet (mL gTupL (mLc (.nm 1) [1] (mSrc (mV 0)) (mYes) (mApp rec (mCons (mV 1) (mNil)))))) (sPass)) (sRet (mV 0)))
def f_built_anew : Nat → List D → Store → Res D
  | 0 => fun _ _ => .no
  | n + 1 => fnOf 2 (b_built_anew (f_built_anew n))
def b_check_table : MS := sIf (mNot (mTru (mApp f_is_table (mCons (mV 0) (mNil))))) (sRaise "InvalidTable" (mApp (f_built_anew 8) (mCons (mV 0) (mNil)))) (sPass)
def f_check_table : List D → Store → Res D := fnOf 1 b_check_table
def b_rows_of : MS := sSeq (sAsg (.tp [.nm 1, .nm 2]) (mV 0)) (sRet (mL gTupL (mLc (.nm 4) [4] (mSrc (mV 1)) (mYes) (mL gTupL (mLc (.nm 3) [3] (mSrc (mV 4)) (mYes) (mApp f_reduced (mCons (mV 3) (mCons (mV 2) (mNil)))))))))
def f_rows_of : List D → Store → Res D := fnOf 5 b_rows_of
def b_product_of : MS := sSeq (sAsg (.nm 2) (mBox (mLc (.nm 4) [4] (mRng1 (mApp gLen (mCons (mOp gIx (mOp gIx (mV 1) (mC (.int 0))) (mC (.int 0))) (mNil)))) (mYes) (mBox (mLc (.nm 3) [3] (mSrc (mOp gIx (mV 1) (mC (.int 0)))) (mYes) (mOp gIx (mV 3) (mV 4))))))) (sSeq (sAsg (.nm 5) (mBox (mLc (.nm 3) [3] (mSrc (mOp gIx (mV 0) (mC (.int 0)))) (mYes) (mBox (mLc (.nm 8) [8] (mSrc (mV 2)) (mYes) (mL gSum (mLc (.tp [.nm 6, .nm 7]) [6, 7] (mZip (mV 3) (mV 8)) (mYes) (mOp gMul (mV 6) (mV 7))))))))) (sRet (mApp gTup (mCons (mV 5) (mCons (mOp gMul (mOp gIx (mV 0) (mC (.int 1))) (mOp gIx (mV 1) (mC (.int 1)))) (mNil))))))
def f_product_of : List D → Store → Res D := fnOf 9 b_product_of
def b_common : MS := sSeq (sAsg (.nm 1) (mC (.int 1))) (sSeq (sFor (.nm 2) (mSrc (mV 0)) (sAsg (.nm 1) (mApp gLcm (mCons (mV 1) (mCons (mOp gIx (mV 2) (mC (.int 1))) (mNil)))))) (sRet (mApp gTup (mCons (mBox (mLc (.nm 2) [2] (mSrc (mV 0)) (mYes) (mOp gMul (mOp gIx (mV 2) (mC (.int 0))) (mOp gDiv (mV 1) (mOp gIx (mV 2) (mC (.int 1))))))) (mCons (mV 1) (mNil))))))
def f_common : List D → Store → Res D := fnOf 3 b_common
def b_grid_of : MS := sSeq (sAsg (.nm 1) (mApp gLen (mCons (mOp gIx (mV 0) (mC (.int 0))) (mNil)))) (sSeq (sAsg (.tp [.nm 2, .nm 3]) (mApp f_common (mCons (mBox (mLc2 (.nm 4) [4, 5] (mSrc (mV 0)) (mYes) (.nm 5) [5] (mSrc (mV 4)) (mYes) (mV 5))) (mNil)))) (sRet (mApp gTup (mCons (mBox (mLc (.nm 6) [6] (mRng3 (mC (.int 0)) (mApp gLen (mCons (mV 2) (mNil))) (mV 1)) (mYes) (mSlice (mV 2) (some (mV 6)) (some (mOp gAdd (mV 6) (mV 1)))))) (mCons (mV 3) (mNil))))))
def f_grid_of : List D → Store → Res D := fnOf 7 b_grid_of
def b_behind : MS := sSeq (sExpr (mApp f_check_table (mCons (mV 0) (mNil)))) (sSeq (sExpr (mApp f_check_table (mCons (mV 1) (mNil)))) (sSeq (sIf (mTst (mOp gNe (mApp gLen (mCons (mV 0) (mNil))) (mApp gLen (mCons (mV 1) (mNil))))) (sRaise "Unlike" (mApp gLen (mCons (mV 1) (mNil)))) (sPass)) (sRet (mApp f_rows_of (mCons (mApp f_product_of (mCons (mApp f_grid_of (mCons (mV 1) (mNil))) (mCons (mApp f_grid_of (mCons (mV 0) (mNil))) (mNil)))) (mNil))))))
def f_behind : List D → Store → Res D := fnOf 2 b_behind
def b_check_rounds : MS := sIf (mTst (mOp gLt (mV 0) (mC (.int 0)))) (sRaise "InvalidNumber" (mV 0)) (sPass)
def f_check_rounds : List D → Store → Res D := fnOf 1 b_check_rounds
def b_still_grid : MS := sRet (mApp gTup (mCons (mBox (mLc (.nm 2) [2] (mRng1 (mV 0)) (mYes) (mBox (mLc (.nm 1) [1] (mRng1 (mV 0)) (mYes) (mIf (mTst (mOp gEq (mV 2) (mV 1))) (mC (.int 1)) (mC (.int 0))))))) (mCons (mC (.int 1)) (mNil))))
def f_still_grid : List D → Store → Res D := fnOf 3 b_still_grid
def b_power_of : MS := sSeq (sPar3 2 3 4 (mApp f_still_grid (mCons (mApp gLen (mCons (mOp gIx (mV 0) (mC (.int 0))) (mNil))) (mNil))) (mV 0) (mV 1)) (sSeq (whL (mTst (mOp gGt (mV 4) (mC (.int 0)))) (sSeq (sIf (mTst (mOp gEq (mOp gMod (mV 4) (mC (.int 2))) (mC (.int 1)))) (sAsg (.nm 2) (mApp f_product_of (mCons (mV 3) (mCons (mV 2) (mNil))))) (sPass)) (sSeq (sAsg (.nm 4) (mOp gDiv (mV 4) (mC (.int 2)))) (sIf (mTst (mOp gGt (mV 4) (mC (.int 0)))) (sAsg (.nm 3) (mApp f_product_of (mCons (mV 3) (mCons (mV 3) (mNil))))) (sPass)))) 4000) (sRet (mV 2)))
def f_power_of : List D → Store → Res D := fnOf 5 b_power_of
def b_reduced_by : MS := sSeq (sIf (mTst (mOp gEq (mV 0) (mC (.int 0)))) (sRet (mC (.tup d_ZERO))) (sPass)) (sSeq (sPar3 3 4 5 (mC (.int 1)) (mV 0) (mApp gGcd (mCons (mV 0) (mCons (mV 2) (mNil))))) (sSeq (whL (mTst (mOp gGt (mV 5) (mC (.int 1)))) (sSeq (sPar 3 4 (mOp gMul (mV 3) (mV 5)) (mOp gDiv (mV 4) (mV 5))) (sAsg (.nm 5) (mApp gGcd (mCons (mV 4) (mCons (mOp gMul (mV 5) (mV 5)) (mNil)))))) 4000) (sSeq (sAsg (.nm 6) (mApp gGcd (mCons (mV 3) (mCons (mV 1) (mNil))))) (sRet (mApp gTup (mCons (mOp gDiv (mV 0) (mV 6)) (mCons (mOp gDiv (mV 1) (mV 6)) (mNil))))))))
def f_reduced_by : List D → Store → Res D := fnOf 7 b_reduced_by
def b_powered : MS := sSeq (sAsg (.tp [.nm 2, .nm 3]) (mApp f_power_of (mCons (mV 0) (mCons (mV 1) (mNil))))) (sRet (mL gTupL (mLc (.nm 5) [5] (mSrc (mV 2)) (mYes) (mL gTupL (mLc (.nm 4) [4] (mSrc (mV 5)) (mYes) (mApp f_reduced_by (mCons (mV 4) (mCons (mV 3) (mCons (mOp gIx (mV 0) (mC (.int 1))) (mNil))))))))))
def f_powered : List D → Store → Res D := fnOf 6 b_powered
def b_power : MS := sSeq (sExpr (mApp f_check_table (mCons (mV 0) (mNil)))) (sSeq (sExpr (mApp f_check_rounds (mCons (mV 1) (mNil)))) (sRet (mApp f_powered (mCons (mApp f_grid_of (mCons (mV 0) (mNil))) (mCons (mV 1) (mNil))))))
def f_power : List D → Store → Res D := fnOf 2 b_power
def b_keeps_all : MS := sSeq (sExpr (mApp f_check_table (mCons (mV 0) (mNil)))) (sRet (mL gAll (mLc (.nm 1) [1] (mSrc (mApp f_column_sums (mCons (mV 0) (mNil)))) (mYes) (mOp gEq (mV 1) (mC (.tup d_ONE))))))
def f_keeps_all : List D → Store → Res D := fnOf 2 b_keeps_all
def b_check_casks : MS := sIf (mNot (mTst (mChain gLe gLe (mC (.int 1)) (mV 0) (mC (.int 8))))) (sRaise "InvalidNumber" (mV 0)) (sPass)
def f_check_casks : List D → Store → Res D := fnOf 1 b_check_casks
def b_still : MS := sSeq (sExpr (mApp f_check_casks (mCons (mV 0) (mNil)))) (sRet (mApp f_rows_of (mCons (mApp f_still_grid (mCons (mV 0) (mNil))) (mNil))))
def f_still : List D → Store → Res D := fnOf 1 b_still
def b_caught : MS := sSeq (sAsg (.nm 3) (mC .non)) (sSeq (sTry cat_CaskError 4 (sIf (mTst (mOp gEq (mV 0) (mC (.int 0)))) (sExpr (mApp f_behind (mCons (mV 1) (mCons (mV 2) (mNil))))) (sIf (mTst (mOp gEq (mV 0) (mC (.int 1)))) (sExpr (mApp f_power (mCons (mV 1) (mCons (mV 2) (mNil))))) (sIf (mTst (mOp gEq (mV 0) (mC (.int 2)))) (sExpr (mApp f_keeps_all (mCons (mV 1) (mNil)))) (sExpr (mApp f_still (mCons (mV 1) (mNil))))))) (sAsg (.nm 3) (mV 4))) (sRet (mV 3)))
def f_caught : List D → Store → Res D := fnOf 5 b_caught
def b_same (rec : List D → Store → Res D) : MS := sSeq (sIf (mTru (mUn (gIsTy "tuple") (mV 1))) (sSeq (sIf (mOr (mNot (mTru (mUn (gIsTy "tuple") (mV 0)))) (mTst (mOp gNe (mApp gLen (mCons (mV 0) (mNil))) (mApp gLen (mCons (mV 1) (mNil)))))) (sRet (mC (.bl false))) (sPass)) (sRet (mL gAll (mLc (.nm 2) [2] (mRng1 (mApp gLen (mCons (mV 1) (mNil)))) (mYes) (mApp rec (mCons (mOp gIx (mV 0) (mV 2)) (mCons (mOp gIx (mV 1) (mV 2)) (mNil)))))))) (sPass)) (sSeq (sIf (mTru (mUn (gIsTy "bool") (mV 1))) (sRet (mAndV (mUn (gIsTy "bool") (mV 0)) (mOp gEq (mV 0) (mV 1)))) (sPass)) (sRet (mAndV (mUn (gIsTy "int") (mV 0)) (mAndV (mNotV (mUn (gIsTy "bool") (mV 0))) (mOp gEq (mV 0) (mV 1))))))
def f_same : Nat → List D → Store → Res D
  | 0 => fun _ _ => .no
  | n + 1 => fnOf 3 (b_same (f_same n))
def b_no_table : MS := sSeq (sAsg (.nm 4) (mApp f_caught (mCons (mV 0) (mCons (mV 1) (mCons (mV 2) (mNil)))))) (sRet (mAndV (mIsE errNames sub_InvalidTable (mV 4)) (mOp gEq (mApp gRepr (mCons (mVal errNames (mV 4)) (mNil))) (mApp gRepr (mCons (mV 3) (mNil))))))
def f_no_table : List D → Store → Res D := fnOf 5 b_no_table
def b_refusals : MS := sSeq (sAsg (.nm 4) (mApp f_spoilt (mCons (mV 0) (mCons (mOp gIx (mV 1) (mC (.int 0))) (mCons (mOp gIx (mV 1) (mC (.int 1))) (mCons (mV 2) (mNil))))))) (sSeq (sIf (mTst (mOp (gIs true) (mApp f_is_table (mCons (mV 4) (mNil))) (mC (.bl false)))) (sRet (mC (.bl false))) (sPass)) (sSeq (sIf (mOr (mNot (mTru (mApp f_no_table (mCons (mC (.int 0)) (mCons (mV 4) (mCons (mV 3) (mCons (mV 4) (mNil)))))))) (mNot (mTru (mApp f_no_table (mCons (mC (.int 0)) (mCons (mV 2) (mCons (mV 4) (mCons (mV 4) (mNil))))))))) (sRet (mC (.bl false))) (sPass)) (sSeq (sAsg (.nm 5) (mOp gSub (mOp gSub (mC (.int 0)) (mC (.int 1))) (mApp f_drop (mCons (mV 0) (mCons (mC (.int 5)) (mNil)))))) (sSeq (sIf (mOr (mNot (mTru (mApp f_no_table (mCons (mC (.int 1)) (mCons (mV 4) (mCons (mV 5) (mCons (mV 4) (mNil)))))))) (mNot (mTru (mApp f_no_table (mCons (mC (.int 2)) (mCons (mV 4) (mCons (mC .non) (mCons (mV 4) (mNil))))))))) (sRet (mC (.bl false))) (sPass)) (sSeq (sAsg (.nm 6) (mApp f_caught (mCons (mC (.int 1)) (mCons (mV 2) (mCons (mV 5) (mNil)))))) (sSeq (sIf (mOr (mNot (mTru (mIsE errNames sub_InvalidNumber (mV 6)))) (mNot (mTru (mApp (f_same 8) (mCons (mVal errNames (mV 6)) (mCons (mV 5) (mNil))))))) (sRet (mC (.bl false))) (sPass)) (sSeq (sAsg (.nm 6) (mApp f_caught (mCons (mC (.int 0)) (mCons (mV 2) (mCons (mV 3) (mNil)))))) (sSeq (sIf (mTst (mOp gEq (mApp gLen (mCons (mV 3) (mNil))) (mApp gLen (mCons (mV 2) (mNil))))) (sRet (mOp (gIs false) (mV 6) (mC .non))) (sPass)) (sRet (mAndV (mIsE errNames sub_Unlike (mV 6)) (mApp (f_same 8) (mCons (mVal errNames (mV 6)) (mCons (mApp gLen (mCons (mV 3) (mNil))) (mNil))))))))))))))
def f_refusals : List D → Store → Res D := fnOf 7 b_refusals
def b_add : MS := sRet (mApp f_low (mCons (mOp gAdd (mOp gMul (mOp gIx (mV 0) (mC (.int 0))) (mOp gIx (mV 1) (mC (.int 1)))) (mOp gMul (mOp gIx (mV 1) (mC (.int 0))) (mOp gIx (mV 0) (mC (.int 1))))) (mCons (mOp gMul (mOp gIx (mV 0) (mC (.int 1))) (mOp gIx (mV 1) (mC (.int 1)))) (mNil))))
def f_add : List D → Store → Res D := fnOf 2 b_add
def b_entry : MS := sSeq (sAsg (.nm 2) (mApp gTup (mCons (mC (.int 0)) (mCons (mC (.int 1)) (mNil))))) (sSeq (sFor (.nm 3) (mRng1 (mApp gLen (mCons (mV 0) (mNil)))) (sAsg (.nm 2) (mApp f_add (mCons (mV 2) (mCons (mApp gTup (mCons (mOp gMul (mOp gIx (mOp gIx (mV 0) (mV 3)) (mC (.int 0))) (mOp gIx (mOp gIx (mV 1) (mV 3)) (mC (.int 0)))) (mCons (mOp gMul (mOp gIx (mOp gIx (mV 0) (mV 3)) (mC (.int 1))) (mOp gIx (mOp gIx (mV 1) (mV 3)) (mC (.int 1)))) (mNil)))) (mNil)))))) (sRet (mV 2)))
def f_entry : List D → Store → Res D := fnOf 4 b_entry
def b_l_behind : MS := sSeq (sAsg (.nm 2) (mBox (mLc (.nm 4) [4] (mRng1 (mApp gLen (mCons (mV 0) (mNil)))) (mYes) (mBox (mLc (.nm 3) [3] (mSrc (mV 0)) (mYes) (mOp gIx (mV 3) (mV 4))))))) (sSeq (sAsg (.nm 5) (mApp gLst (mNil))) (sSeq (sFor (.nm 3) (mSrc (mV 1)) (sExpr (mMt gApp (mV 5) (mCons (mL gTupL (mLc (.nm 6) [6] (mSrc (mV 2)) (mYes) (mApp f_entry (mCons (mV 3) (mCons (mV 6) (mNil)))))) mNil)))) (sRet (mApp gTuple (mCons (mV 5) (mNil))))))
def f_l_behind : List D → Store → Res D := fnOf 7 b_l_behind
def b_l_still : MS := sSeq (sIf (mAnd (mTst (mOp gLe (mC (.int 1)) (mV 0))) (mTst (mOp gLe (mV 0) (mC (.int 8))))) (sSeq (sAsg (.nm 1) (mBox (mLc (.nm 3) [3] (mRng1 (mV 0)) (mYes) (mBox (mLc (.nm 2) [2] (mRng1 (mV 0)) (mYes) (mApp gInt (mCons (mOp gEq (mV 2) (mV 3)) (mNil)))))))) (sRet (mApp (f_same 8) (mCons (mApp f_still (mCons (mV 0) (mNil))) (mCons (mApp f_table_of (mCons (mV 1) (mCons (mOp gMul (mApp gLst (mCons (mC (.int 1)) (mNil))) (mV 0)) (mNil)))) (mNil)))))) (sPass)) (sSeq (sAsg (.nm 4) (mApp f_caught (mCons (mC (.int 3)) (mCons (mV 0) (mCons (mC .non) (mNil)))))) (sRet (mAndV (mIsE errNames sub_InvalidNumber (mV 4)) (mApp (f_same 8) (mCons (mVal errNames (mV 4)) (mCons (mV 0) (mNil)))))))
def f_l_still : List D → Store → Res D := fnOf 5 b_l_still
def b_l_powered : MS := sSeq (sAsg (.nm 3) (mApp gLen (mCons (mV 0) (mNil)))) (sSeq (sAsg (.nm 4) (mBox (mLc (.nm 6) [6] (mRng1 (mV 3)) (mYes) (mBox (mLc (.nm 5) [5] (mRng1 (mV 3)) (mYes) (mApp gInt (mCons (mOp gEq (mV 5) (mV 6)) (mNil)))))))) (sSeq (sAsg (.nm 7) (mC (.int 1))) (sSeq (sFor (.nm 8) (mRng1 (mV 2)) (sSeq (sAsg (.nm 9) (mApp gLst (mNil))) (sSeq (sFor (.nm 10) (mSrc (mV 4)) (sExpr (mMt gApp (mV 9) (mCons (mBox (mLc (.nm 5) [5] (mRng1 (mV 3)) (mYes) (mL gSum (mLc (.nm 11) [11] (mRng1 (mV 3)) (mYes) (mOp gMul (mOp gIx (mOp gIx (mV 0) (mV 11)) (mV 5)) (mOp gIx (mV 10) (mV 11))))))) mNil)))) (sSeq (sAsg (.nm 4) (mV 9)) (sAsg (.nm 7) (mOp gMul (mV 7) (mV 1))))))) (sRet (mApp f_table_of (mCons (mV 4) (mCons (mOp gMul (mApp gLst (mCons (mV 7) (mNil))) (mV 3)) (mNil))))))))
def f_l_powered : List D → Store → Res D := fnOf 12 b_l_powered
def b_right : MS := sSeq (sAsg (.nm 1) (mOp gAdd (mC (.int 1)) (mApp f_drop (mCons (mV 0) (mCons (mOp gIx (mApp gLst (mCons (mC (.int 5)) (mCons (mC (.int 5)) (mCons (mC (.int 8)) (mNil))))) (mApp f_drop (mCons (mV 0) (mCons (mC (.int 3)) (mNil))))) (mNil)))))) (sSeq (sAsg (.nm 2) (mApp f_draw (mCons (mV 0) (mCons (mV 1) (mNil))))) (sSeq (sAsg (.nm 3) (mApp f_table_of (mCons (mOp gIx (mV 2) (mC (.int 0))) (mCons (mOp gIx (mV 2) (mC (.int 1))) (mNil))))) (sSeq (sAsg (.nm 4) (mApp f_draw (mCons (mV 0) (mCons (mV 1) (mNil))))) (sSeq (sAsg (.nm 5) (mApp f_table_of (mCons (mOp gIx (mV 4) (mC (.int 0))) (mCons (mOp gIx (mV 4) (mC (.int 1))) (mNil))))) (sSeq (sIf (mOr (mTst (mOp (gIs true) (mApp f_is_table (mCons (mV 3) (mNil))) (mC (.bl true)))) (mTst (mOp (gIs true) (mApp f_is_table (mCons (mV 5) (mNil))) (mC (.bl true))))) (sRet (mC (.bl false))) (sPass)) (sSeq (sIf (mNot (mTru (mApp (f_same 8) (mCons (mApp f_behind (mCons (mV 3) (mCons (mV 5) (mNil)))) (mCons (mApp f_l_behind (mCons (mV 3) (mCons (mV 5) (mNil)))) (mNil)))))) (sRet (mC (.bl false))) (sPass)) (sSeq (sAsg (.nm 6) (mL gAll (mLc (.nm 7) [7] (mRng1 (mV 1)) (mYes) (mOp gEq (mApp (gSq gSum) (mCons (mOp gIx (mOp gIx (mV 2) (mC (.int 0))) (mV 7)) (mNil))) (mOp gIx (mOp gIx (mV 2) (mC (.int 1))) (mV 7)))))) (sSeq (sIf (mOr (mNot (mTru (mApp (f_same 8) (mCons (mApp f_keeps_all (mCons (mV 3) (mNil))) (mCons (mV 6) (mNil)))))) (mNot (mTru (mApp f_l_still (mCons (mOp gSub (mApp f_drop (mCons (mV 0) (mCons (mC (.int 12)) (mNil)))) (mC (.int 1))) (mNil)))))) (sRet (mC (.bl false))) (sPass)) (sSeq (sAsg (.nm 8) (mOp gIx (mApp gLst (mCons (mOp gAdd (mC (.int 1)) (mApp f_drop (mCons (mV 0) (mCons (mC (.int 3)) (mNil))))) (mCons (mOp gAdd (mC (.int 6)) (mApp f_drop (mCons (mV 0) (mCons (mC (.int 3)) (mNil))))) (mNil)))) (mApp gInt (mCons (mOp gEq (mApp f_drop (mCons (mV 0) (mCons (mC (.int 5)) (mNil)))) (mC (.int 4))) (mNil))))) (sSeq (sAsg (.nm 9) (mOp gAdd (mC (.int 1)) (mApp f_drop (mCons (mV 0) (mCons (mC (.int 6)) (mNil)))))) (sSeq (sAsg (.nm 10) (mBox (mLc (.nm 11) [11] (mRng1 (mV 8)) (mYes) (mApp f_column (mCons (mV 0) (mCons (mV 8) (mCons (mV 9) (mNil)))))))) (sSeq (sAsg (.nm 12) (mApp f_table_of (mCons (mV 10) (mCons (mOp gMul (mApp gLst (mCons (mV 9) (mNil))) (mV 8)) (mNil))))) (sSeq (sAsg (.nm 13) (mApp f_drop (mCons (mV 0) (mCons (mOp gIx (mApp gLst (mCons (mC (.int 3)) (mCons (mC (.int 8)) (mCons (mC (.int 40)) (mCons (mOp gSub (mC (.int 301)) (mOp gMul (mC (.int 260)) (mApp gInt (mCons (mOp gGt (mV 8) (mC (.int 3))) (mNil))))) (mNil)))))) (mApp f_drop (mCons (mV 0) (mCons (mC (.int 4)) (mNil))))) (mNil))))) (sSeq (sIf (mNot (mTru (mApp (f_same 8) (mCons (mApp f_power (mCons (mV 12) (mCons (mV 13) (mNil)))) (mCons (mApp f_l_powered (mCons (mV 10) (mCons (mV 9) (mCons (mV 13) (mNil))))) (mNil)))))) (sRet (mC (.bl false))) (sPass)) (sSeq (sIf (mOr (mNot (mTru (mApp (f_same 8) (mCons (mApp f_power (mCons (mV 3) (mCons (mC (.int 1)) (mNil)))) (mCons (mV 3) (mNil)))))) (mNot (mTru (mApp (f_same 8) (mCons (mApp f_behind (mCons (mV 12) (mCons (mApp f_still (mCons (mV 8) (mNil))) (mNil)))) (mCons (mV 12) (mNil))))))) (sRet (mC (.bl false))) (sPass)) (sRet (mApp f_refusals (mCons (mV 0) (mCons (mV 2) (mCons (mV 3) (mCons (mV 12) (mNil))))))))))))))))))))))
def f_right : List D → Store → Res D := fnOf 14 b_right
def b_jug : MS := sRet (mApp gLst (mCons (mApp gMax2 (mCons (mC (.int 0)) (mCons (mOp gSub (mV 0) (mOp gPow (mC (.int 10)) (mC (.int 18)))) (mNil)))) (mCons (mOp gMod (mApp gInt (mCons (mOp gAdd (mOp gMul (mV 0) (mC (.int 32452843))) (mOp gMul (mOp gAdd (mV 1) (mC (.int 11))) (mC (.int 49979687)))) (mNil))) (mOp gAdd (mOp gPow (mC (.int 10)) (mC (.int 24))) (mC (.int 7)))) (mCons (mC (.int 0)) (mNil)))))
def f_jug : List D → Store → Res D := fnOf 2 b_jug
def b_law : MS := sSeq (sAsg (.nm 1) (mOp gAdd (mSlice (mV 0) (none) (some (mC (.int 6)))) (mOp gMul (mApp gLst (mCons (mC (.int 0)) (mNil))) (mApp gInt (mCons (mOp gEq (mV 0) (mApp gLst (mNil))) (mNil)))))) (sSeq (sFor (.nm 2) (mRng1 (mApp gLen (mCons (mV 1) (mNil)))) (sIf (mNot (mTru (mApp f_right (mCons (mApp f_jug (mCons (mOp gIx (mV 1) (mV 2)) (mCons (mV 2) (mNil)))) (mNil))))) (sRet (mC (.bl false))) (sPass))) (sRet (mC (.bl true))))
def f_law : List D → Store → Res D := fnOf 3 b_law
abbrev s_drop : Stmt := topS 41
abbrev n_drop : List Str := ["_law_jug_here", "_law_many", "_law_drop_here", "_law_stirred"]
abbrev s_column : Stmt := topS 44
abbrev n_column : List Str := ["_law_jug_here", "_law_casks", "_law_below", "_law_parts", "_law_way", "_law_start", "_law_left", "_law_k"]
abbrev s_draw : Stmt := topS 46
abbrev n_draw : List Str := ["_law_jug_here", "_law_casks", "_law_belows", "_law_cask", "_law_columns", "_law_below"]
abbrev s_low : Stmt := topS 42
abbrev n_low : List Str := ["_law_above", "_law_below", "_law_one", "_law_two", "_law_turn"]
abbrev s_table_of : Stmt := topS 45
abbrev n_table_of : List Str := ["_law_columns", "_law_belows", "_law_rows", "_law_i", "_law_j"]
abbrev s_entry_put : Stmt := topS 51
abbrev n_entry_put : List Str := ["_law_table", "_law_i", "_law_j", "_law_entry_here", "_law_row"]
abbrev s_spoilt : Stmt := topS 52
abbrev n_spoilt : List Str := ["_law_jug_here", "_law_columns", "_law_belows", "_law_table", "_law_casks", "_law_i", "_law_j", "_law_above", "_law_below", "_law_lacks", "_law_heavy", "_law_entries", "_law_way", "_law_short", "_law_listed", "_law_whole", "_law_k", "_law_m"]
abbrev s_is_integer : Stmt := topS 11
abbrev n_is_integer : List Str := ["value"]
abbrev s_is_fraction : Stmt := topS 12
abbrev n_is_fraction : List Str := ["value"]
abbrev s_is_from_zero : Stmt := topS 13
abbrev n_is_from_zero : List Str := ["value"]
abbrev s_is_share : Stmt := topS 14
abbrev n_is_share : List Str := ["value"]
abbrev s_is_table_row : Stmt := topS 30
abbrev n_is_table_row : List Str := ["value", "casks", "entry"]
abbrev s_reduced : Stmt := topS 15
abbrev n_reduced : List Str := ["above", "below", "divisor"]
abbrev s_added : Stmt := topS 17
abbrev n_added : List Str := ["one", "other"]
abbrev s_total : Stmt := topS 18
abbrev n_total : List Str := ["fractions", "result", "entry"]
abbrev s_column_sums : Stmt := topS 31
abbrev n_column_sums : List Str := ["table", "row", "at"]
abbrev s_is_table : Stmt := topS 29
abbrev n_is_table : List Str := ["value", "row", "column"]
abbrev s_built_anew : Stmt := topS 2
abbrev n_built_anew : List Str := ["value", "entry"]
abbrev s_check_table : Stmt := topS 36
abbrev n_check_table : List Str := ["value"]
abbrev s_rows_of : Stmt := topS 23
abbrev n_rows_of : List Str := ["grid", "rows", "below", "number", "row"]
abbrev s_product_of : Stmt := topS 25
abbrev n_product_of : List Str := ["one", "other", "columns", "row", "at", "rows", "x", "y", "column"]
abbrev s_common : Stmt := topS 19
abbrev n_common : List Str := ["fractions", "below", "entry"]
abbrev s_grid_of : Stmt := topS 22
abbrev n_grid_of : List Str := ["rows", "width", "numbers", "below", "row", "entry", "at"]
abbrev s_behind : Stmt := topS 33
abbrev n_behind : List Str := ["one", "other"]
abbrev s_check_rounds : Stmt := topS 38
abbrev n_check_rounds : List Str := ["rounds"]
abbrev s_still_grid : Stmt := topS 24
abbrev n_still_grid : List Str := ["casks", "column", "row"]
abbrev s_power_of : Stmt := topS 26
abbrev n_power_of : List Str := ["grid", "rounds", "result", "square", "left"]
abbrev s_reduced_by : Stmt := topS 16
abbrev n_reduced_by : List Str := ["number", "below", "base", "shared", "left", "part", "divisor"]
abbrev s_powered : Stmt := topS 27
abbrev n_powered : List Str := ["grid", "rounds", "rows", "below", "number", "row"]
abbrev s_power : Stmt := topS 34
abbrev n_power : List Str := ["table", "rounds"]
abbrev s_keeps_all : Stmt := topS 35
abbrev n_keeps_all : List Str := ["table", "column"]
abbrev s_check_casks : Stmt := topS 37
abbrev n_check_casks : List Str := ["casks"]
abbrev s_still : Stmt := topS 32
abbrev n_still : List Str := ["casks"]
abbrev s_caught : Stmt := topS 53
abbrev n_caught : List Str := ["_law_way", "_law_one", "_law_other", "_law_caught_here", "e"]
abbrev s_same : Stmt := topS 43
abbrev n_same : List Str := ["_law_found", "_law_due", "_law_k"]
abbrev s_no_table : Stmt := topS 54
abbrev n_no_table : List Str := ["_law_way", "_law_one", "_law_other", "_law_bad", "_law_caught_here"]
abbrev s_refusals : Stmt := topS 56
abbrev n_refusals : List Str := ["_law_jug_here", "_law_first", "_law_table", "_law_further", "_law_bad", "_law_low_here", "_law_caught_here"]
abbrev s_add : Stmt := topS 47
abbrev n_add : List Str := ["_law_one", "_law_other"]
abbrev s_entry : Stmt := topS 48
abbrev n_entry : List Str := ["_law_row", "_law_column_here", "_law_total", "_law_k"]
abbrev s_l_behind : Stmt := topS 49
abbrev n_l_behind : List Str := ["_law_one", "_law_other", "_law_columns", "_law_row", "_law_cask", "_law_rows", "_law_column_here"]
abbrev s_l_still : Stmt := topS 55
abbrev n_l_still : List Str := ["_law_casks", "_law_columns", "_law_i", "_law_j", "_law_caught_here"]
abbrev s_l_powered : Stmt := topS 50
abbrev n_l_powered : List Str := ["_law_columns", "_law_below", "_law_rounds", "_law_casks", "_law_made", "_law_i", "_law_j", "_law_whole", "_law_turn", "_law_fresh", "_law_column_here", "_law_k"]
abbrev s_right : Stmt := topS 57
abbrev n_right : List Str := ["_law_jug_here", "_law_casks", "_law_first", "_law_one", "_law_second", "_law_other", "_law_full", "_law_j", "_law_few", "_law_below", "_law_columns", "_law_cask", "_law_small", "_law_rounds"]
abbrev s_jug : Stmt := topS 40
abbrev n_jug : List Str := ["_law_cell", "_law_k"]
abbrev s_law : Stmt := topS 58
abbrev n_law : List Str := ["_law_script", "_law_cells", "_law_k"]
abbrev s_init : Stmt := inClass (topS 4) 0
structure Txt (K : PySem.W.Frag) (mg : Str → Option Value) where
  a_drop : Addr
  d_drop : FuncData
  m_drop : mg "_law_drop" = some (.ref a_drop)
  F_drop : Fun K "_law_drop" "_law_drop" s_drop a_drop d_drop
  k_drop : PySem.W.keepIn K (.ref a_drop) = true
  b_drop : Binds K d_drop ["_law_jug_here", "_law_many"] []
  a_column : Addr
  d_column : FuncData
  m_column : mg "_law_column" = some (.ref a_column)
  F_column : Fun K "_law_column" "_law_column" s_column a_column d_column
  k_column : PySem.W.keepIn K (.ref a_column) = true
  b_column : Binds K d_column ["_law_jug_here", "_law_casks", "_law_below"] []
  a_draw : Addr
  d_draw : FuncData
  m_draw : mg "_law_draw" = some (.ref a_draw)
  F_draw : Fun K "_law_draw" "_law_draw" s_draw a_draw d_draw
  k_draw : PySem.W.keepIn K (.ref a_draw) = true
  b_draw : Binds K d_draw ["_law_jug_here", "_law_casks"] []
  a_low : Addr
  d_low : FuncData
  m_low : mg "_law_low" = some (.ref a_low)
  F_low : Fun K "_law_low" "_law_low" s_low a_low d_low
  k_low : PySem.W.keepIn K (.ref a_low) = true
  b_low : Binds K d_low ["_law_above", "_law_below"] []
  a_table_of : Addr
  d_table_of : FuncData
  m_table_of : mg "_law_table_of" = some (.ref a_table_of)
  F_table_of : Fun K "_law_table_of" "_law_table_of" s_table_of a_table_of d_table_of
  k_table_of : PySem.W.keepIn K (.ref a_table_of) = true
  b_table_of : Binds K d_table_of ["_law_columns", "_law_belows"] []
  a_entry_put : Addr
  d_entry_put : FuncData
  m_entry_put : mg "_law_entry_put" = some (.ref a_entry_put)
  F_entry_put : Fun K "_law_entry_put" "_law_entry_put" s_entry_put a_entry_put d_entry_put
  k_entry_put : PySem.W.keepIn K (.ref a_entry_put) = true
  b_entry_put : Binds K d_entry_put ["_law_table", "_law_i", "_law_j", "_law_entry_here"] []
  a_spoilt : Addr
  d_spoilt : FuncData
  m_spoilt : mg "_law_spoilt" = some (.ref a_spoilt)
  F_spoilt : Fun K "_law_spoilt" "_law_spoilt" s_spoilt a_spoilt d_spoilt
  k_spoilt : PySem.W.keepIn K (.ref a_spoilt) = true
  b_spoilt : Binds K d_spoilt ["_law_jug_here", "_law_columns", "_law_belows", "_law_table"] []
  a_is_integer : Addr
  d_is_integer : FuncData
  m_is_integer : mg "is_integer" = some (.ref a_is_integer)
  F_is_integer : Fun K "is_integer" "is_integer" s_is_integer a_is_integer d_is_integer
  k_is_integer : PySem.W.keepIn K (.ref a_is_integer) = true
  b_is_integer : Binds K d_is_integer ["value"] []
  a_is_fraction : Addr
  d_is_fraction : FuncData
  m_is_fraction : mg "is_fraction" = some (.ref a_is_fraction)
  F_is_fraction : Fun K "is_fraction" "is_fraction" s_is_fraction a_is_fraction d_is_fraction
  k_is_fraction : PySem.W.keepIn K (.ref a_is_fraction) = true
  b_is_fraction : Binds K d_is_fraction ["value"] []
  a_is_from_zero : Addr
  d_is_from_zero : FuncData
  m_is_from_zero : mg "is_from_zero" = some (.ref a_is_from_zero)
  F_is_from_zero : Fun K "is_from_zero" "is_from_zero" s_is_from_zero a_is_from_zero d_is_from_zero
  k_is_from_zero : PySem.W.keepIn K (.ref a_is_from_zero) = true
  b_is_from_zero : Binds K d_is_from_zero ["value"] []
  a_is_share : Addr
  d_is_share : FuncData
  m_is_share : mg "is_share" = some (.ref a_is_share)
  F_is_share : Fun K "is_share" "is_share" s_is_share a_is_share d_is_share
  k_is_share : PySem.W.keepIn K (.ref a_is_share) = true
  b_is_share : Binds K d_is_share ["value"] []
  a_is_table_row : Addr
  d_is_table_row : FuncData
  m_is_table_row : mg "is_table_row" = some (.ref a_is_table_row)
  F_is_table_row : Fun K "is_table_row" "is_table_row" s_is_table_row a_is_table_row d_is_table_row
  k_is_table_row : PySem.W.keepIn K (.ref a_is_table_row) = true
  b_is_table_row : Binds K d_is_table_row ["value", "casks"] []
  a_reduced : Addr
  d_reduced : FuncData
  m_reduced : mg "reduced" = some (.ref a_reduced)
  F_reduced : Fun K "reduced" "reduced" s_reduced a_reduced d_reduced
  k_reduced : PySem.W.keepIn K (.ref a_reduced) = true
  b_reduced : Binds K d_reduced ["above", "below"] []
  a_added : Addr
  d_added : FuncData
  m_added : mg "added" = some (.ref a_added)
  F_added : Fun K "added" "added" s_added a_added d_added
  k_added : PySem.W.keepIn K (.ref a_added) = true
  b_added : Binds K d_added ["one", "other"] []
  a_total : Addr
  d_total : FuncData
  m_total : mg "total" = some (.ref a_total)
  F_total : Fun K "total" "total" s_total a_total d_total
  k_total : PySem.W.keepIn K (.ref a_total) = true
  b_total : Binds K d_total ["fractions"] []
  a_column_sums : Addr
  d_column_sums : FuncData
  m_column_sums : mg "column_sums" = some (.ref a_column_sums)
  F_column_sums : Fun K "column_sums" "column_sums" s_column_sums a_column_sums d_column_sums
  k_column_sums : PySem.W.keepIn K (.ref a_column_sums) = true
  b_column_sums : Binds K d_column_sums ["table"] []
  a_is_table : Addr
  d_is_table : FuncData
  m_is_table : mg "is_table" = some (.ref a_is_table)
  F_is_table : Fun K "is_table" "is_table" s_is_table a_is_table d_is_table
  k_is_table : PySem.W.keepIn K (.ref a_is_table) = true
  b_is_table : Binds K d_is_table ["value"] []
  a_built_anew : Addr
  d_built_anew : FuncData
  m_built_anew : mg "built_anew" = some (.ref a_built_anew)
  F_built_anew : Fun K "built_anew" "built_anew" s_built_anew a_built_anew d_built_anew
  k_built_anew : PySem.W.keepIn K (.ref a_built_anew) = true
  b_built_anew : Binds K d_built_anew ["value"] []
  a_check_table : Addr
  d_check_table : FuncData
  m_check_table : mg "check_table" = some (.ref a_check_table)
  F_check_table : Fun K "check_table" "check_table" s_check_table a_check_table d_check_table
  k_check_table : PySem.W.keepIn K (.ref a_check_table) = true
  b_check_table : Binds K d_check_table ["value"] []
  a_rows_of : Addr
  d_rows_of : FuncData
  m_rows_of : mg "rows_of" = some (.ref a_rows_of)
  F_rows_of : Fun K "rows_of" "rows_of" s_rows_of a_rows_of d_rows_of
  k_rows_of : PySem.W.keepIn K (.ref a_rows_of) = true
  b_rows_of : Binds K d_rows_of ["grid"] []
  a_product_of : Addr
  d_product_of : FuncData
  m_product_of : mg "product_of" = some (.ref a_product_of)
  F_product_of : Fun K "product_of" "product_of" s_product_of a_product_of d_product_of
  k_product_of : PySem.W.keepIn K (.ref a_product_of) = true
  b_product_of : Binds K d_product_of ["one", "other"] []
  a_common : Addr
  d_common : FuncData
  m_common : mg "common" = some (.ref a_common)
  F_common : Fun K "common" "common" s_common a_common d_common
  k_common : PySem.W.keepIn K (.ref a_common) = true
  b_common : Binds K d_common ["fractions"] []
  a_grid_of : Addr
  d_grid_of : FuncData
  m_grid_of : mg "grid_of" = some (.ref a_grid_of)
  F_grid_of : Fun K "grid_of" "grid_of" s_grid_of a_grid_of d_grid_of
  k_grid_of : PySem.W.keepIn K (.ref a_grid_of) = true
  b_grid_of : Binds K d_grid_of ["rows"] []
  a_behind : Addr
  d_behind : FuncData
  m_behind : mg "behind" = some (.ref a_behind)
  F_behind : Fun K "behind" "behind" s_behind a_behind d_behind
  k_behind : PySem.W.keepIn K (.ref a_behind) = true
  b_behind : Binds K d_behind ["one", "other"] []
  a_check_rounds : Addr
  d_check_rounds : FuncData
  m_check_rounds : mg "check_rounds" = some (.ref a_check_rounds)
  F_check_rounds : Fun K "check_rounds" "check_rounds" s_check_rounds a_check_rounds d_check_rounds
  k_check_rounds : PySem.W.keepIn K (.ref a_check_rounds) = true
  b_check_rounds : Binds K d_check_rounds ["rounds"] []
  a_still_grid : Addr
  d_still_grid : FuncData
  m_still_grid : mg "still_grid" = some (.ref a_still_grid)
  F_still_grid : Fun K "still_grid" "still_grid" s_still_grid a_still_grid d_still_grid
  k_still_grid : PySem.W.keepIn K (.ref a_still_grid) = true
  b_still_grid : Binds K d_still_grid ["casks"] []
  a_power_of : Addr
  d_power_of : FuncData
  m_power_of : mg "power_of" = some (.ref a_power_of)
  F_power_of : Fun K "power_of" "power_of" s_power_of a_power_of d_power_of
  k_power_of : PySem.W.keepIn K (.ref a_power_of) = true
  b_power_of : Binds K d_power_of ["grid", "rounds"] []
  a_reduced_by : Addr
  d_reduced_by : FuncData
  m_reduced_by : mg "reduced_by" = some (.ref a_reduced_by)
  F_reduced_by : Fun K "reduced_by" "reduced_by" s_reduced_by a_reduced_by d_reduced_by
  k_reduced_by : PySem.W.keepIn K (.ref a_reduced_by) = true
  b_reduced_by : Binds K d_reduced_by ["number", "below", "base"] []
  a_powered : Addr
  d_powered : FuncData
  m_powered : mg "powered" = some (.ref a_powered)
  F_powered : Fun K "powered" "powered" s_powered a_powered d_powered
  k_powered : PySem.W.keepIn K (.ref a_powered) = true
  b_powered : Binds K d_powered ["grid", "rounds"] []
  a_power : Addr
  d_power : FuncData
  m_power : mg "power" = some (.ref a_power)
  F_power : Fun K "power" "power" s_power a_power d_power
  k_power : PySem.W.keepIn K (.ref a_power) = true
  b_power : Binds K d_power ["table", "rounds"] []
  a_keeps_all : Addr
  d_keeps_all : FuncData
  m_keeps_all : mg "keeps_all" = some (.ref a_keeps_all)
  F_keeps_all : Fun K "keeps_all" "keeps_all" s_keeps_all a_keeps_all d_keeps_all
  k_keeps_all : PySem.W.keepIn K (.ref a_keeps_all) = true
  b_keeps_all : Binds K d_keeps_all ["table"] []
  a_check_casks : Addr
  d_check_casks : FuncData
  m_check_casks : mg "check_casks" = some (.ref a_check_casks)
  F_check_casks : Fun K "check_casks" "check_casks" s_check_casks a_check_casks d_check_casks
  k_check_casks : PySem.W.keepIn K (.ref a_check_casks) = true
  b_check_casks : Binds K d_check_casks ["casks"] []
  a_still : Addr
  d_still : FuncData
  m_still : mg "still" = some (.ref a_still)
  F_still : Fun K "still" "still" s_still a_still d_still
  k_still : PySem.W.keepIn K (.ref a_still) = true
  b_still : Binds K d_still ["casks"] []
  a_caught : Addr
  d_caught : FuncData
  m_caught : mg "_law_caught" = some (.ref a_caught)
  F_caught : Fun K "_law_caught" "_law_caught" s_caught a_caught d_caught
  k_caught : PySem.W.keepIn K (.ref a_caught) = true
  b_caught : Binds K d_caught ["_law_way", "_law_one", "_law_other"] []
  a_same : Addr
  d_same : FuncData
  m_same : mg "_law_same" = some (.ref a_same)
  F_same : Fun K "_law_same" "_law_same" s_same a_same d_same
  k_same : PySem.W.keepIn K (.ref a_same) = true
  b_same : Binds K d_same ["_law_found", "_law_due"] []
  a_no_table : Addr
  d_no_table : FuncData
  m_no_table : mg "_law_no_table" = some (.ref a_no_table)
  F_no_table : Fun K "_law_no_table" "_law_no_table" s_no_table a_no_table d_no_table
  k_no_table : PySem.W.keepIn K (.ref a_no_table) = true
  b_no_table : Binds K d_no_table ["_law_way", "_law_one", "_law_other", "_law_bad"] []
  a_refusals : Addr
  d_refusals : FuncData
  m_refusals : mg "_law_refusals" = some (.ref a_refusals)
  F_refusals : Fun K "_law_refusals" "_law_refusals" s_refusals a_refusals d_refusals
  k_refusals : PySem.W.keepIn K (.ref a_refusals) = true
  b_refusals : Binds K d_refusals ["_law_jug_here", "_law_first", "_law_table", "_law_further"] []
  a_add : Addr
  d_add : FuncData
  m_add : mg "_law_add" = some (.ref a_add)
  F_add : Fun K "_law_add" "_law_add" s_add a_add d_add
  k_add : PySem.W.keepIn K (.ref a_add) = true
  b_add : Binds K d_add ["_law_one", "_law_other"] []
  a_entry : Addr
  d_entry : FuncData
  m_entry : mg "_law_entry" = some (.ref a_entry)
  F_entry : Fun K "_law_entry" "_law_entry" s_entry a_entry d_entry
  k_entry : PySem.W.keepIn K (.ref a_entry) = true
  b_entry : Binds K d_entry ["_law_row", "_law_column_here"] []
  a_l_behind : Addr
  d_l_behind : FuncData
  m_l_behind : mg "_law_behind" = some (.ref a_l_behind)
  F_l_behind : Fun K "_law_behind" "_law_behind" s_l_behind a_l_behind d_l_behind
  k_l_behind : PySem.W.keepIn K (.ref a_l_behind) = true
  b_l_behind : Binds K d_l_behind ["_law_one", "_law_other"] []
  a_l_still : Addr
  d_l_still : FuncData
  m_l_still : mg "_law_still" = some (.ref a_l_still)
  F_l_still : Fun K "_law_still" "_law_still" s_l_still a_l_still d_l_still
  k_l_still : PySem.W.keepIn K (.ref a_l_still) = true
  b_l_still : Binds K d_l_still ["_law_casks"] []
  a_l_powered : Addr
  d_l_powered : FuncData
  m_l_powered : mg "_law_powered" = some (.ref a_l_powered)
  F_l_powered : Fun K "_law_powered" "_law_powered" s_l_powered a_l_powered d_l_powered
  k_l_powered : PySem.W.keepIn K (.ref a_l_powered) = true
  b_l_powered : Binds K d_l_powered ["_law_columns", "_law_below", "_law_rounds"] []
  a_right : Addr
  d_right : FuncData
  m_right : mg "_law_right" = some (.ref a_right)
  F_right : Fun K "_law_right" "_law_right" s_right a_right d_right
  k_right : PySem.W.keepIn K (.ref a_right) = true
  b_right : Binds K d_right ["_law_jug_here"] []
  a_jug : Addr
  d_jug : FuncData
  m_jug : mg "_law_jug" = some (.ref a_jug)
  F_jug : Fun K "_law_jug" "_law_jug" s_jug a_jug d_jug
  k_jug : PySem.W.keepIn K (.ref a_jug) = true
  b_jug : Binds K d_jug ["_law_cell", "_law_k"] []
  a_law : Addr
  d_law : FuncData
  m_law : mg "law" = some (.ref a_law)
  F_law : Fun K "law" "law" s_law a_law d_law
  k_law : PySem.W.keepIn K (.ref a_law) = true
  b_law : Binds K d_law ["_law_script"] []
  a_CaskError : Addr
  c_CaskError : mg "CaskError" = some (.ref a_CaskError)
  a_InvalidTable : Addr
  c_InvalidTable : mg "InvalidTable" = some (.ref a_InvalidTable)
  a_InvalidNumber : Addr
  c_InvalidNumber : mg "InvalidNumber" = some (.ref a_InvalidNumber)
  a_Unlike : Addr
  c_Unlike : mg "Unlike" = some (.ref a_Unlike)
  a_init : Addr
  d_init : FuncData
  F_init : Fun K "__init__" "CaskError.__init__" s_init a_init d_init
  t_init : PySem.W.typeIn K (.ref a_init) = some (.type "function")
  b_init : Binds K d_init ["self", "value"] []
  n_ValueError : mg "ValueError" = none
  v_ValueError : PySem.W.findCls K (.type "ValueError") (.type "type") "__init__" = some (.val (.builtin "ValueError.__init__"))
  e_Unlike : ErrC K mg "Unlike" a_Unlike a_init
  e_InvalidTable : ErrC K mg "InvalidTable" a_InvalidTable a_init
  e_InvalidNumber : ErrC K mg "InvalidNumber" a_InvalidNumber a_init
  i_InvalidNumber : ∀ c C, c ∈ errNames → mg c = some (.ref C) → PySem.W.kitOne K (.ref C) (.ref a_InvalidNumber) = some (sub_InvalidNumber c)
  i_InvalidTable : ∀ c C, c ∈ errNames → mg c = some (.ref C) → PySem.W.kitOne K (.ref C) (.ref a_InvalidTable) = some (sub_InvalidTable c)
  i_Unlike : ∀ c C, c ∈ errNames → mg c = some (.ref C) → PySem.W.kitOne K (.ref C) (.ref a_Unlike) = some (sub_Unlike c)
  x_CaskError : ∀ e C b, mg e = some (.ref C) → cat_CaskError e = some b → PySem.W.exmOne K (.ref C) (.ref a_CaskError) = some b
  t_MOST_CASKS : Tok
  c_MOST_CASKS : mg "MOST_CASKS" = some (.int 8 t_MOST_CASKS)
  a_ONE : Addr
  c_ONE : mg "ONE" = some (.ref a_ONE)
  z_ONE : ∀ H : Hp, SqT K H a_ONE [V.int 1, V.int 1]
  a_ZERO : Addr
  c_ZERO : mg "ZERO" = some (.ref a_ZERO)
  z_ZERO : ∀ H : Hp, SqT K H a_ZERO [V.int 0, V.int 1]
  n_gcd : mg "gcd" = some (.builtin "math.gcd")
  n_lcm : mg "lcm" = some (.builtin "math.lcm")
  n_abs : mg "abs" = none
  n_all : mg "all" = none
  n_bool : mg "bool" = none
  n_int : mg "int" = none
  n_isinstance : mg "isinstance" = none
  n_len : mg "len" = none
  n_list : mg "list" = none
  n_max : mg "max" = none
  n_range : mg "range" = none
  n_repr : mg "repr" = none
  n_sum : mg "sum" = none
  n_tuple : mg "tuple" = none
  n_zip : mg "zip" = none
variable {P : Program} {w : World} {K : PySem.W.Frag} {mg : Str → Option Value} {base : Heap}
theorem Txt.errs (T : Txt K mg) : Errs K mg errNames := ⟨fun c C hc hm => by
  simp only [errNames, List.mem_cons, List.not_mem_nil, or_false] at hc
  rcases hc with rfl | rfl | rfl
  · have e := T.e_Unlike.gC.symm.trans hm
    cases e
    exact ⟨_, T.e_Unlike⟩
  · have e := T.e_InvalidTable.gC.symm.trans hm
    cases e
    exact ⟨_, T.e_InvalidTable⟩
  · have e := T.e_InvalidNumber.gC.symm.trans hm
    cases e
    exact ⟨_, T.e_InvalidNumber⟩⟩
theorem sc_init : FnScope ["self", "value"] ["self", "value"] (defScope s_init) := ⟨rfl, rfl, rfl, by decide +kernel, rfl, by decide +kernel, by decide +kernel⟩
theorem ok_initE (T : Txt K mg) : FnOk P w K mg base (L2.CX P w) 1 T.a_init T.d_init ["self", "value"] (spInit K) := ok_init T.F_init sc_init fun cdv A outer s H E =>
    pss_cons (ps_expr (pe_veinit rfl T.n_ValueError T.v_ValueError (by exact (pa_cons (pv 0) (pa_cons (pv 1) pa_nil))))) (pss_one (ps_ost (pv 0) (pv 1)))
theorem sc_drop : FnScope n_drop ["_law_jug_here", "_law_many"] (defScope s_drop) := ⟨rfl, rfl, rfl, by decide +kernel, rfl, by decide +kernel, by decide +kernel⟩
theorem ok_drop (T : Txt K mg) : FnG P w K mg base 3 T.a_drop T.d_drop ["_law_jug_here", "_law_many"] (spF K mg 2 f_drop) := fn_ok T.F_drop sc_drop fun cdv A outer s H E hr hG tk =>
    js_cons (js_if (j_tcmp o_gt calm_int2 (j_ix (j_v 0) (j_int)) (j_int) (nomark _)) (js_cons (js_set 2 sc_drop.nd rfl (Or.inl rfl) (j_op o_mod calm_int2 (j_callTy c_int calm_int T.n_int bt_int (j_cons (j_ix (j_v 0) (j_int)) (j_nil))) (j_v 1)))
        (js_cons (js_setI (j_v 0) (j_int) (j_op o_div calm_int2 (j_ix (j_v 0) (j_int)) (j_v 1)))
        (js_one (js_ret (j_v 2))))) (js_nil))
        (js_cons (js_setI (j_v 0) (j_int) (j_op o_add calm_add (j_ix (j_v 0) (j_int)) (j_int)))
        (js_cons (js_set 3 sc_drop.nd rfl (Or.inl rfl) (j_op o_mod calm_int2 (j_callTy c_int calm_int T.n_int bt_int (j_cons (j_op o_pow calm_int2 (j_op o_add calm_add (j_ix (j_v 0) (j_int)) (j_op o_mul calm_mul (j_ix (j_v 0) (j_int)) (j_int))) (j_int)) (j_nil))) (j_op o_add calm_add (j_op o_pow calm_int2 (j_int) (j_int)) (j_int))))
        (js_one (js_ret (j_op o_mod calm_int2 (j_op o_div calm_int2 (j_op o_mod calm_int2 (j_callTy c_int calm_int T.n_int bt_int (j_cons (j_op o_add calm_add (j_op o_pow calm_int2 (j_v 3) (j_int)) (j_op o_div calm_int2 (j_v 3) (j_int))) (j_nil))) (j_op o_add calm_add (j_op o_pow calm_int2 (j_int) (j_int)) (j_int))) (j_int)) (j_v 1))))))
theorem sc_column : FnScope n_column ["_law_jug_here", "_law_casks", "_law_below"] (defScope s_column) := ⟨rfl, rfl, rfl, by decide +kernel, rfl, by decide +kernel, by decide +kernel⟩
theorem ok_column (T : Txt K mg) (H_drop : FnG P w K mg base 3 T.a_drop T.d_drop ["_law_jug_here", "_law_many"] (spF K mg 2 f_drop)) : FnG P w K mg base 4 T.a_column T.d_column ["_law_jug_here", "_law_casks", "_law_below"] (spF K mg 3 f_column) := fn_ok T.F_column sc_column fun cdv A outer s H E hr hG tk =>
    js_cons (js_set 3 sc_column.nd rfl (Or.inl rfl) (j_op o_mul calm_mul (j_lst (j_cons (j_int) (j_nil))) (j_v 1)))
        (js_cons (js_set 4 sc_column.nd rfl (Or.inl rfl) (j_call tk H_drop (hr.mono (by decide)) hG T.m_drop T.k_drop T.b_drop (j_cons (j_v 0) (j_cons (j_int) (j_nil))) (len_cons (len_cons (len_nil)))))
        (js_cons (js_set 5 sc_column.nd rfl (Or.inl rfl) (j_call tk H_drop (hr.mono (by decide)) hG T.m_drop T.k_drop T.b_drop (j_cons (j_v 0) (j_cons (j_v 1) (j_nil))) (len_cons (len_cons (len_nil)))))
        (js_cons (js_if (j_tcmp (o_eq hr.units) calm_eq (j_v 4) (j_int) (nomark _)) (js_cons (js_setI (j_v 3) (j_v 5) (j_v 2))
        (js_one (js_ret (j_v 3)))) (js_nil))
        (js_cons (js_set 6 sc_column.nd rfl (Or.inl rfl) (j_v 2))
        (js_cons (js_for (passes_of rfl) rfl (j_range1 T.n_range (j_op o_mul calm_mul (j_v 1) (j_callTy c_int calm_int T.n_int bt_int (j_cons (j_cmp o_gt calm_int2 (j_v 4) (j_int) (nomark _)) (j_nil))))) (jg_name 7 sc_column.nd rfl (Or.inl rfl)) (js_cons (js_setI (j_v 3) (j_op o_mod calm_int2 (j_callTy c_int calm_int T.n_int bt_int (j_cons (j_op o_add calm_add (j_v 5) (j_v 7)) (j_nil))) (j_v 1)) (j_call tk H_drop (hr.mono (by decide)) hG T.m_drop T.k_drop T.b_drop (j_cons (j_v 0) (j_cons (j_op o_add calm_add (j_v 6) (j_int)) (j_nil))) (len_cons (len_cons (len_nil)))))
        (js_one (js_set 6 sc_column.nd rfl (Or.inl rfl) (j_op o_sub calm_int2 (j_v 6) (j_ix (j_v 3) (j_op o_mod calm_int2 (j_callTy c_int calm_int T.n_int bt_int (j_cons (j_op o_add calm_add (j_v 5) (j_v 7)) (j_nil))) (j_v 1))))))))
        (js_cons (js_if (j_tcmp o_gt calm_int2 (j_v 4) (j_int) (nomark _)) (js_one (js_setI (j_v 3) (j_v 5) (j_op o_add calm_add (j_ix (j_v 3) (j_v 5)) (j_v 6)))) (js_nil))
        (js_one (js_ret (j_v 3)))))))))
theorem sc_draw : FnScope n_draw ["_law_jug_here", "_law_casks"] (defScope s_draw) := ⟨rfl, rfl, rfl, by decide +kernel, rfl, by decide +kernel, by decide +kernel⟩
theorem ok_draw (T : Txt K mg) (H_drop : FnG P w K mg base 3 T.a_drop T.d_drop ["_law_jug_here", "_law_many"] (spF K mg 2 f_drop)) (H_column : FnG P w K mg base 4 T.a_column T.d_column ["_law_jug_here", "_law_casks", "_law_below"] (spF K mg 3 f_column)) : FnG P w K mg base 5 T.a_draw T.d_draw ["_law_jug_here", "_law_casks"] (spF K mg 2 f_draw) := fn_ok T.F_draw sc_draw fun cdv A outer s H E hr hG tk =>
    js_cons (js_lset 2 [("_law_cask", 3)] rfl sc_draw.nd rfl rfl rfl (j_range1 T.n_range (j_v 1)) (blk_ok rfl rfl) (fun _ _ _ _ _ => jg_name 3 sc_draw.nd rfl (Or.inl rfl)) (fun _ _ _ _ _ => jc_nil) (fun _ _ _ _ _ => j_ix (j_lst (j_cons (j_int) (j_cons (j_int) (j_cons (j_int) (j_cons (j_int) (j_cons (j_op o_pow calm_int2 (j_int) (j_int)) (j_cons (j_op o_pow calm_int2 (j_int) (j_int)) (j_nil)))))))) (j_call takes0 H_drop (hr.mono (by decide)) hG T.m_drop T.k_drop T.b_drop (j_cons (j_v 0) (j_cons (j_op o_sub calm_int2 (j_int) (j_op o_mul calm_mul (j_int) (j_callTy c_int calm_int T.n_int bt_int (j_cons (j_cmp o_gt calm_int2 (j_v 1) (j_int) (nomark _)) (j_nil))))) (j_nil))) (len_cons (len_cons (len_nil))))) (by decide))
        (js_cons (js_lset 4 [("_law_below", 5)] rfl sc_draw.nd rfl rfl rfl (j_src (j_v 2)) (blk_ok rfl rfl) (fun _ _ _ _ _ => jg_name 5 sc_draw.nd rfl (Or.inl rfl)) (fun _ _ _ _ _ => jc_nil) (fun _ _ _ _ _ => j_call takes0 H_column (hr.mono (by decide)) hG T.m_column T.k_column T.b_column (j_cons (j_v 0) (j_cons (j_v 1) (j_cons (j_v 5) (j_nil)))) (len_cons (len_cons (len_cons (len_nil))))) (by decide))
        (js_one (js_ret (j_tup (j_cons (j_v 4) (j_cons (j_v 2) (j_nil)))))))
theorem sc_low : FnScope n_low ["_law_above", "_law_below"] (defScope s_low) := ⟨rfl, rfl, rfl, by decide +kernel, rfl, by decide +kernel, by decide +kernel⟩
theorem ok_low (T : Txt K mg) : FnG P w K mg base 3 T.a_low T.d_low ["_law_above", "_law_below"] (spF K mg 2 f_low) := fn_ok T.F_low sc_low fun cdv A outer s H E hr hG tk =>
    js_cons (js_set 2 sc_low.nd rfl (Or.inl rfl) (j_callB c_abs calm_abs T.n_abs bt_abs (j_cons (j_v 0) (j_nil))))
        (js_cons (js_set 3 sc_low.nd rfl (Or.inl rfl) (j_v 1))
        (js_cons (js_for (passes_of rfl) rfl (j_range1 T.n_range (j_int)) (jg_name 4 sc_low.nd rfl (Or.inl rfl)) (js_cons (js_if (j_tcmp (o_eq hr.units) calm_eq (j_v 3) (j_int) (nomark _)) (js_one (js_brk)) (js_nil))
        (js_one (js_par 2 3 rfl sc_low.nd rfl rfl (by decide) rfl rfl (j_v 3) (j_op o_mod calm_int2 (j_callTy c_int calm_int T.n_int bt_int (j_cons (j_v 2) (j_nil))) (j_v 3)) rfl))))
        (js_one (js_ret (j_tup (j_cons (j_op o_div calm_int2 (j_v 0) (j_v 2)) (j_cons (j_op o_div calm_int2 (j_v 1) (j_v 2)) (j_nil))))))))
theorem sc_table_of : FnScope n_table_of ["_law_columns", "_law_belows"] (defScope s_table_of) := ⟨rfl, rfl, rfl, by decide +kernel, rfl, by decide +kernel, by decide +kernel⟩
theorem ok_table_of (T : Txt K mg) (H_low : FnG P w K mg base 3 T.a_low T.d_low ["_law_above", "_law_below"] (spF K mg 2 f_low)) : FnG P w K mg base 4 T.a_table_of T.d_table_of ["_law_columns", "_law_belows"] (spF K mg 2 f_table_of) := fn_ok T.F_table_of sc_table_of fun cdv A outer s H E hr hG tk =>
    js_cons (js_set 2 sc_table_of.nd rfl (Or.inl rfl) (j_lst (j_nil)))
        (js_cons (js_for (passes_of rfl) rfl (j_range1 T.n_range (j_callB c_len calm_len T.n_len bt_len (j_cons (j_v 0) (j_nil)))) (jg_name 3 sc_table_of.nd rfl (Or.inr rfl)) (js_one (js_expr (j_append (j_v 2) (j_callTyL c_tupL calm_tupL T.n_tuple bt_tuple (j_lc [("_law_j", 4)] rfl sc_table_of.nd (j_range1 T.n_range (j_callB c_len calm_len T.n_len bt_len (j_cons (j_v 0) (j_nil)))) (blk_ok rfl rfl) (fun _ _ _ _ _ => jg_name 4 sc_table_of.nd rfl (Or.inl rfl)) (fun _ _ _ _ _ => jc_nil) (fun _ _ _ _ _ => j_call takes0 H_low (hr.mono (by decide)) hG T.m_low T.k_low T.b_low (j_cons (j_ix (j_ix (j_v 0) (j_v 4)) (j_v 3)) (j_cons (j_ix (j_v 1) (j_v 4)) (j_nil))) (len_cons (len_cons (len_nil)))) (by decide)))))))
        (js_one (js_ret (j_callTy c_tuple calm_tuple T.n_tuple bt_tuple (j_cons (j_v 2) (j_nil))))))
theorem sc_entry_put : FnScope n_entry_put ["_law_table", "_law_i", "_law_j", "_law_entry_here"] (defScope s_entry_put) := ⟨rfl, rfl, rfl, by decide +kernel, rfl, by decide +kernel, by decide +kernel⟩
theorem ok_entry_put (T : Txt K mg) : FnG P w K mg base 3 T.a_entry_put T.d_entry_put ["_law_table", "_law_i", "_law_j", "_law_entry_here"] (spF K mg 4 f_entry_put) := fn_ok T.F_entry_put sc_entry_put fun cdv A outer s H E hr hG tk =>
    js_cons (js_set 4 sc_entry_put.nd rfl (Or.inl rfl) (j_op o_add calm_add (j_op o_add calm_add (j_slice (j_ix (j_v 0) (j_v 1)) (.none) (.some (j_v 2))) (j_tup (j_cons (j_v 3) (j_nil)))) (j_slice (j_ix (j_v 0) (j_v 1)) (.some (j_op o_add calm_add (j_v 2) (j_int))) (.none))))
        (js_one (js_ret (j_op o_add calm_add (j_op o_add calm_add (j_slice (j_v 0) (.none) (.some (j_v 1))) (j_tup (j_cons (j_v 4) (j_nil)))) (j_slice (j_v 0) (.some (j_op o_add calm_add (j_v 1) (j_int))) (.none)))))
theorem sc_spoilt : FnScope n_spoilt ["_law_jug_here", "_law_columns", "_law_belows", "_law_table"] (defScope s_spoilt) := ⟨rfl, rfl, rfl, by decide +kernel, rfl, by decide +kernel, by decide +kernel⟩
theorem ok_spoilt (T : Txt K mg) (H_drop : FnG P w K mg base 3 T.a_drop T.d_drop ["_law_jug_here", "_law_many"] (spF K mg 2 f_drop)) (H_low : FnG P w K mg base 3 T.a_low T.d_low ["_law_above", "_law_below"] (spF K mg 2 f_low)) (H_entry_put : FnG P w K mg base 3 T.a_entry_put T.d_entry_put ["_law_table", "_law_i", "_law_j", "_law_entry_here"] (spF K mg 4 f_entry_put)) (H_table_of : FnG P w K mg base 4 T.a_table_of T.d_table_of ["_law_columns", "_law_belows"] (spF K mg 2 f_table_of)) : FnG P w K mg base 5 T.a_spoilt T.d_spoilt ["_law_jug_here", "_law_columns", "_law_belows", "_law_table"] (spF K mg 4 f_spoilt) := fn_ok T.F_spoilt sc_spoilt fun cdv A outer s H E hr hG tk =>
    js_cons (js_set 4 sc_spoilt.nd rfl (Or.inl rfl) (j_callB c_len calm_len T.n_len bt_len (j_cons (j_v 3) (j_nil))))
        (js_cons (js_set 5 sc_spoilt.nd rfl (Or.inl rfl) (j_call tk H_drop (hr.mono (by decide)) hG T.m_drop T.k_drop T.b_drop (j_cons (j_v 0) (j_cons (j_v 4) (j_nil))) (len_cons (len_cons (len_nil)))))
        (js_cons (js_set 6 sc_spoilt.nd rfl (Or.inl rfl) (j_call tk H_drop (hr.mono (by decide)) hG T.m_drop T.k_drop T.b_drop (j_cons (j_v 0) (j_cons (j_v 4) (j_nil))) (len_cons (len_cons (len_nil)))))
        (js_cons (js_asg (jg_tup rfl (jgs_cons (jg_name 7 sc_spoilt.nd rfl (Or.inl rfl)) (jgs_cons (jg_name 8 sc_spoilt.nd rfl (Or.inl rfl)) (jgs_nil)))) (j_ix (j_ix (j_v 3) (j_v 5)) (j_v 6)))
        (js_cons (js_set 9 sc_spoilt.nd rfl (Or.inl rfl) (j_op o_sub calm_int2 (j_ix (j_v 2) (j_v 6)) (j_callB (c_sq (c_sum rfl)) (calm_sq calm_sum) T.n_sum bt_sum (j_cons (j_ix (j_v 1) (j_v 6)) (j_nil)))))
        (js_cons (js_set 10 sc_spoilt.nd rfl (Or.inl rfl) (j_call tk H_low (hr.mono (by decide)) hG T.m_low T.k_low T.b_low (j_cons (j_op o_add calm_add (j_op o_add calm_add (j_ix (j_ix (j_v 1) (j_v 6)) (j_v 5)) (j_v 9)) (j_int)) (j_cons (j_ix (j_v 2) (j_v 6)) (j_nil))) (len_cons (len_cons (len_nil)))))
        (js_cons (js_set 11 sc_spoilt.nd rfl (Or.inl rfl) (j_lst (j_cons (j_v 10) (j_cons (j_v 10) (j_cons (j_tup (j_cons (j_op o_sub calm_int2 (j_op o_sub calm_int2 (j_int) (j_int)) (j_v 7)) (j_cons (j_v 8) (j_nil)))) (j_cons (j_tup (j_cons (j_op o_mul calm_mul (j_int) (j_v 7)) (j_cons (j_op o_mul calm_mul (j_int) (j_v 8)) (j_nil)))) (j_cons (j_bl) (j_cons (j_int) (j_cons (j_non) (j_cons (j_lst (j_cons (j_v 7) (j_cons (j_v 8) (j_nil)))) (j_cons (j_tup (j_cons (j_v 7) (j_nil))) (j_nil))))))))))))
        (js_cons (js_set 12 sc_spoilt.nd rfl (Or.inl rfl) (j_call tk H_drop (hr.mono (by decide)) hG T.m_drop T.k_drop T.b_drop (j_cons (j_v 0) (j_cons (j_op o_add calm_add (j_callB c_len calm_len T.n_len bt_len (j_cons (j_v 11) (j_nil))) (j_int)) (j_nil))) (len_cons (len_cons (len_nil)))))
        (js_cons (js_if (j_tcmp o_lt calm_int2 (j_v 12) (j_callB c_len calm_len T.n_len bt_len (j_cons (j_v 11) (j_nil))) (nomark _)) (js_one (js_ret (j_call tk H_entry_put (hr.mono (by decide)) hG T.m_entry_put T.k_entry_put T.b_entry_put (j_cons (j_v 3) (j_cons (j_v 5) (j_cons (j_v 6) (j_cons (j_ix (j_v 11) (j_v 12)) (j_nil))))) (len_cons (len_cons (len_cons (len_cons (len_nil)))))))) (js_nil))
        (js_cons (js_set 13 sc_spoilt.nd rfl (Or.inl rfl) (j_op o_add calm_add (j_op o_add calm_add (j_slice (j_v 3) (.none) (.some (j_v 5))) (j_tup (j_cons (j_op o_add calm_add (j_slice (j_ix (j_v 3) (j_v 5)) (.none) (.some (j_v 6))) (j_slice (j_ix (j_v 3) (j_v 5)) (.some (j_op o_add calm_add (j_v 6) (j_int))) (.none))) (j_nil)))) (j_slice (j_v 3) (.some (j_op o_add calm_add (j_v 5) (j_int))) (.none))))
        (js_cons (js_set 14 sc_spoilt.nd rfl (Or.inl rfl) (j_op o_add calm_add (j_op o_add calm_add (j_slice (j_v 3) (.none) (.some (j_v 5))) (j_tup (j_cons (j_callTy c_list calm_list T.n_list bt_list (j_cons (j_ix (j_v 3) (j_v 5)) (j_nil))) (j_nil)))) (j_slice (j_v 3) (.some (j_op o_add calm_add (j_v 5) (j_int))) (.none))))
        (js_cons (js_set 15 sc_spoilt.nd rfl (Or.inl rfl) (j_lst (j_cons (j_callTy c_list calm_list T.n_list bt_list (j_cons (j_v 3) (j_nil))) (j_cons (j_op o_add calm_add (j_slice (j_v 3) (.none) (.some (j_v 5))) (j_slice (j_v 3) (.some (j_op o_add calm_add (j_v 5) (j_int))) (.none))) (j_cons (j_op o_add calm_add (j_v 3) (j_tup (j_cons (j_ix (j_v 3) (j_v 5)) (j_nil)))) (j_cons (j_v 13) (j_cons (j_v 14) (j_cons (j_non) (j_cons (j_tup (j_nil)) (j_cons (j_ix (j_ix (j_v 3) (j_v 5)) (j_v 6)) (j_cons (j_str) (j_nil))))))))))))
        (js_cons (js_set 15 sc_spoilt.nd rfl (Or.inl rfl) (j_op o_add calm_add (j_v 15) (j_lst (j_cons (j_call tk H_table_of (hr.mono (by decide)) hG T.m_table_of T.k_table_of T.b_table_of (j_cons (j_box (j_lc [("_law_m", 17)] rfl sc_spoilt.nd (j_range1 T.n_range (j_int)) (blk_ok rfl rfl) (fun _ _ _ _ _ => jg_name 17 sc_spoilt.nd rfl (Or.inr rfl)) (fun _ _ _ _ _ => jc_nil) (fun _ _ _ _ _ => j_box (j_lc [("_law_k", 16)] rfl sc_spoilt.nd (j_range1 T.n_range (j_int)) (blk_ok rfl rfl) (fun _ _ _ _ _ => jg_name 16 sc_spoilt.nd rfl (Or.inl rfl)) (fun _ _ _ _ _ => jc_nil) (fun _ _ _ _ _ => j_callTy c_int calm_int T.n_int bt_int (j_cons (j_cmp (o_eq hr.units) calm_eq (j_v 16) (j_v 17) (nomark _)) (j_nil))) (by decide))) (by decide))) (j_cons (j_op o_mul calm_mul (j_lst (j_cons (j_int) (j_nil))) (j_int)) (j_nil))) (len_cons (len_cons (len_nil)))) (j_cons (j_op o_mul calm_mul (j_tup (j_cons (j_op o_mul calm_mul (j_tup (j_cons (j_tup (j_cons (j_int) (j_cons (j_int) (j_nil)))) (j_nil))) (j_int)) (j_nil))) (j_int)) (j_nil))))))
        (js_one (js_ret (j_ix (j_v 15) (j_call tk H_drop (hr.mono (by decide)) hG T.m_drop T.k_drop T.b_drop (j_cons (j_v 0) (j_cons (j_callB c_len calm_len T.n_len bt_len (j_cons (j_v 15) (j_nil))) (j_nil))) (len_cons (len_cons (len_nil)))))))))))))))))))
theorem sc_is_integer : FnScope n_is_integer ["value"] (defScope s_is_integer) := ⟨rfl, rfl, rfl, by decide +kernel, rfl, by decide +kernel, by decide +kernel⟩
theorem ok_is_integer (T : Txt K mg) : FnG P w K mg base 3 T.a_is_integer T.d_is_integer ["value"] (spF K mg 1 f_is_integer) := fn_ok T.F_is_integer sc_is_integer fun cdv A outer s H E hr hG tk =>
    js_one (js_ret (j_andV (j_isTy T.n_isinstance T.n_int bt_int (by decide +kernel) (j_v 0)) (j_one (j_notV (j_isTy T.n_isinstance T.n_bool bt_bool (by decide +kernel) (j_v 0))))))
theorem sc_is_fraction : FnScope n_is_fraction ["value"] (defScope s_is_fraction) := ⟨rfl, rfl, rfl, by decide +kernel, rfl, by decide +kernel, by decide +kernel⟩
theorem ok_is_fraction (T : Txt K mg) (H_is_integer : FnG P w K mg base 3 T.a_is_integer T.d_is_integer ["value"] (spF K mg 1 f_is_integer)) : FnG P w K mg base 4 T.a_is_fraction T.d_is_fraction ["value"] (spF K mg 1 f_is_fraction) := fn_ok T.F_is_fraction sc_is_fraction fun cdv A outer s H E hr hG tk =>
    js_cons (js_if (j_pw (j_or (j_not (j_t (j_isTy T.n_isinstance T.n_tuple bt_tuple (by decide +kernel) (j_v 0)))) (j_or1 (j_tcmp (o_ne hr.units) calm_eq (j_callB c_len calm_len T.n_len bt_len (j_cons (j_v 0) (j_nil))) (j_int) (nomark _))))) (js_one (js_ret (j_bl))) (js_nil))
        (js_cons (js_if (j_pw (j_or (j_not (j_t (j_call tk H_is_integer (hr.mono (by decide)) hG T.m_is_integer T.k_is_integer T.b_is_integer (j_cons (j_ix (j_v 0) (j_int)) (j_nil)) (len_cons (len_nil))))) (j_or1 (j_not (j_t (j_call tk H_is_integer (hr.mono (by decide)) hG T.m_is_integer T.k_is_integer T.b_is_integer (j_cons (j_ix (j_v 0) (j_int)) (j_nil)) (len_cons (len_nil)))))))) (js_one (js_ret (j_bl))) (js_nil))
        (js_one (js_ret (j_andV (j_cmp o_ge calm_int2 (j_ix (j_v 0) (j_int)) (j_int) (nomark _)) (j_one (j_cmp (o_eq hr.units) calm_eq (j_callF c_gcd calm_gcd T.n_gcd (j_cons (j_ix (j_v 0) (j_int)) (j_cons (j_ix (j_v 0) (j_int)) (j_nil)))) (j_int) (nomark _)))))))
theorem sc_is_from_zero : FnScope n_is_from_zero ["value"] (defScope s_is_from_zero) := ⟨rfl, rfl, rfl, by decide +kernel, rfl, by decide +kernel, by decide +kernel⟩
theorem ok_is_from_zero (T : Txt K mg) (H_is_fraction : FnG P w K mg base 4 T.a_is_fraction T.d_is_fraction ["value"] (spF K mg 1 f_is_fraction)) : FnG P w K mg base 5 T.a_is_from_zero T.d_is_from_zero ["value"] (spF K mg 1 f_is_from_zero) := fn_ok T.F_is_from_zero sc_is_from_zero fun cdv A outer s H E hr hG tk =>
    js_one (js_ret (j_andV (j_call tk H_is_fraction (hr.mono (by decide)) hG T.m_is_fraction T.k_is_fraction T.b_is_fraction (j_cons (j_v 0) (j_nil)) (len_cons (len_nil))) (j_one (j_cmp o_ge calm_int2 (j_ix (j_v 0) (j_int)) (j_int) (nomark _)))))
theorem sc_is_share : FnScope n_is_share ["value"] (defScope s_is_share) := ⟨rfl, rfl, rfl, by decide +kernel, rfl, by decide +kernel, by decide +kernel⟩
theorem ok_is_share (T : Txt K mg) (H_is_from_zero : FnG P w K mg base 5 T.a_is_from_zero T.d_is_from_zero ["value"] (spF K mg 1 f_is_from_zero)) : FnG P w K mg base 6 T.a_is_share T.d_is_share ["value"] (spF K mg 1 f_is_share) := fn_ok T.F_is_share sc_is_share fun cdv A outer s H E hr hG tk =>
    js_one (js_ret (j_andV (j_call tk H_is_from_zero (hr.mono (by decide)) hG T.m_is_from_zero T.k_is_from_zero T.b_is_from_zero (j_cons (j_v 0) (j_nil)) (len_cons (len_nil))) (j_one (j_cmp o_le calm_int2 (j_ix (j_v 0) (j_int)) (j_ix (j_v 0) (j_int)) (nomark _)))))
theorem sc_is_table_row : FnScope n_is_table_row ["value", "casks"] (defScope s_is_table_row) := ⟨rfl, rfl, rfl, by decide +kernel, rfl, by decide +kernel, by decide +kernel⟩
theorem ok_is_table_row (T : Txt K mg) (H_is_from_zero : FnG P w K mg base 5 T.a_is_from_zero T.d_is_from_zero ["value"] (spF K mg 1 f_is_from_zero)) : FnG P w K mg base 6 T.a_is_table_row T.d_is_table_row ["value", "casks"] (spF K mg 2 f_is_table_row) := fn_ok T.F_is_table_row sc_is_table_row fun cdv A outer s H E hr hG tk =>
    js_one (js_ret (j_andV (j_isTy T.n_isinstance T.n_tuple bt_tuple (by decide +kernel) (j_v 0)) (j_andV (j_cmp (o_eq hr.units) calm_eq (j_callB c_len calm_len T.n_len bt_len (j_cons (j_v 0) (j_nil))) (j_v 1) (nomark _)) (j_one (j_callBL (c_all rfl) calm_all T.n_all bt_all (j_lc [("entry", 2)] rfl sc_is_table_row.nd (j_src (j_v 0)) (blk_ok rfl rfl) (fun _ _ _ _ _ => jg_name 2 sc_is_table_row.nd rfl (Or.inl rfl)) (fun _ _ _ _ _ => jc_nil) (fun _ _ _ _ _ => j_call takes0 H_is_from_zero (hr.mono (by decide)) hG T.m_is_from_zero T.k_is_from_zero T.b_is_from_zero (j_cons (j_v 2) (j_nil)) (len_cons (len_nil))) (by decide)))))))
theorem sc_reduced : FnScope n_reduced ["above", "below"] (defScope s_reduced) := ⟨rfl, rfl, rfl, by decide +kernel, rfl, by decide +kernel, by decide +kernel⟩
theorem ok_reduced (T : Txt K mg) : FnG P w K mg base 3 T.a_reduced T.d_reduced ["above", "below"] (spF K mg 2 f_reduced) := fn_ok T.F_reduced sc_reduced fun cdv A outer s H E hr hG tk =>
    js_cons (js_set 2 sc_reduced.nd rfl (Or.inl rfl) (j_callF c_gcd calm_gcd T.n_gcd (j_cons (j_v 0) (j_cons (j_v 1) (j_nil)))))
        (js_cons (js_if (j_tcmp o_lt calm_int2 (j_v 1) (j_int) (nomark _)) (js_one (js_set 2 sc_reduced.nd rfl (Or.inl rfl) (j_un o_neg calm_neg (j_v 2)))) (js_nil))
        (js_one (js_ret (j_tup (j_cons (j_op o_div calm_int2 (j_v 0) (j_v 2)) (j_cons (j_op o_div calm_int2 (j_v 1) (j_v 2)) (j_nil)))))))
theorem sc_added : FnScope n_added ["one", "other"] (defScope s_added) := ⟨rfl, rfl, rfl, by decide +kernel, rfl, by decide +kernel, by decide +kernel⟩
theorem ok_added (T : Txt K mg) (H_reduced : FnG P w K mg base 3 T.a_reduced T.d_reduced ["above", "below"] (spF K mg 2 f_reduced)) : FnG P w K mg base 4 T.a_added T.d_added ["one", "other"] (spF K mg 2 f_added) := fn_ok T.F_added sc_added fun cdv A outer s H E hr hG tk =>
    js_one (js_ret (j_call tk H_reduced (hr.mono (by decide)) hG T.m_reduced T.k_reduced T.b_reduced (j_cons (j_op o_add calm_add (j_op o_mul calm_mul (j_ix (j_v 0) (j_int)) (j_ix (j_v 1) (j_int))) (j_op o_mul calm_mul (j_ix (j_v 1) (j_int)) (j_ix (j_v 0) (j_int)))) (j_cons (j_op o_mul calm_mul (j_ix (j_v 0) (j_int)) (j_ix (j_v 1) (j_int))) (j_nil))) (len_cons (len_cons (len_nil)))))
theorem sc_total : FnScope n_total ["fractions"] (defScope s_total) := ⟨rfl, rfl, rfl, by decide +kernel, rfl, by decide +kernel, by decide +kernel⟩
theorem ok_total (T : Txt K mg) (H_added : FnG P w K mg base 4 T.a_added T.d_added ["one", "other"] (spF K mg 2 f_added)) : FnG P w K mg base 5 T.a_total T.d_total ["fractions"] (spF K mg 1 f_total) := fn_ok T.F_total sc_total fun cdv A outer s H E hr hG tk =>
    js_cons (js_set 1 sc_total.nd rfl (Or.inl rfl) (j_globT T.c_ZERO T.z_ZERO (fun _ => rds_ints [0, 1])))
        (js_cons (js_for (passes_of rfl) rfl (j_src (j_v 0)) (jg_name 2 sc_total.nd rfl (Or.inl rfl)) (js_one (js_set 1 sc_total.nd rfl (Or.inl rfl) (j_call tk H_added (hr.mono (by decide)) hG T.m_added T.k_added T.b_added (j_cons (j_v 1) (j_cons (j_v 2) (j_nil))) (len_cons (len_cons (len_nil)))))))
        (js_one (js_ret (j_v 1))))
theorem sc_column_sums : FnScope n_column_sums ["table"] (defScope s_column_sums) := ⟨rfl, rfl, rfl, by decide +kernel, rfl, by decide +kernel, by decide +kernel⟩
theorem ok_column_sums (T : Txt K mg) (H_total : FnG P w K mg base 5 T.a_total T.d_total ["fractions"] (spF K mg 1 f_total)) : FnG P w K mg base 6 T.a_column_sums T.d_column_sums ["table"] (spF K mg 1 f_column_sums) := fn_ok T.F_column_sums sc_column_sums fun cdv A outer s H E hr hG tk =>
    js_one (js_ret (j_box (j_lc [("at", 2)] rfl sc_column_sums.nd (j_range1 T.n_range (j_callB c_len calm_len T.n_len bt_len (j_cons (j_v 0) (j_nil)))) (blk_ok rfl rfl) (fun _ _ _ _ _ => jg_name 2 sc_column_sums.nd rfl (Or.inr rfl)) (fun _ _ _ _ _ => jc_nil) (fun _ _ _ _ _ => j_call takes0 H_total (hr.mono (by decide)) hG T.m_total T.k_total T.b_total (j_cons (j_box (j_lc [("row", 1)] rfl sc_column_sums.nd (j_src (j_v 0)) (blk_ok rfl rfl) (fun _ _ _ _ _ => jg_name 1 sc_column_sums.nd rfl (Or.inl rfl)) (fun _ _ _ _ _ => jc_nil) (fun _ _ _ _ _ => j_ix (j_v 1) (j_v 2)) (by decide))) (j_nil)) (len_cons (len_nil))) (by decide))))
theorem sc_is_table : FnScope n_is_table ["value"] (defScope s_is_table) := ⟨rfl, rfl, rfl, by decide +kernel, rfl, by decide +kernel, by decide +kernel⟩
theorem ok_is_table (T : Txt K mg) (H_is_table_row : FnG P w K mg base 6 T.a_is_table_row T.d_is_table_row ["value", "casks"] (spF K mg 2 f_is_table_row)) (H_column_sums : FnG P w K mg base 6 T.a_column_sums T.d_column_sums ["table"] (spF K mg 1 f_column_sums)) (H_is_share : FnG P w K mg base 6 T.a_is_share T.d_is_share ["value"] (spF K mg 1 f_is_share)) : FnG P w K mg base 7 T.a_is_table T.d_is_table ["value"] (spF K mg 1 f_is_table) := fn_ok T.F_is_table sc_is_table fun cdv A outer s H E hr hG tk =>
    js_cons (js_if (j_pw (j_or (j_not (j_t (j_isTy T.n_isinstance T.n_tuple bt_tuple (by decide +kernel) (j_v 0)))) (j_or1 (j_not (j_tchain o_le calm_int2 o_le calm_int2 (j_int) (j_callB c_len calm_len T.n_len bt_len (j_cons (j_v 0) (j_nil))) (j_const (pe_glob (v := V.int 8) rfl T.c_MOST_CASKS ⟨_, rfl⟩) fun _ _ _ => .int _)))))) (js_one (js_ret (j_bl))) (js_nil))
        (js_cons (js_if (j_not (j_t (j_callBL (c_all rfl) calm_all T.n_all bt_all (j_lc [("row", 1)] rfl sc_is_table.nd (j_src (j_v 0)) (blk_ok rfl rfl) (fun _ _ _ _ _ => jg_name 1 sc_is_table.nd rfl (Or.inl rfl)) (fun _ _ _ _ _ => jc_nil) (fun _ _ _ _ _ => j_call takes0 H_is_table_row (hr.mono (by decide)) hG T.m_is_table_row T.k_is_table_row T.b_is_table_row (j_cons (j_v 1) (j_cons (j_callB c_len calm_len T.n_len bt_len (j_cons (j_v 0) (j_nil))) (j_nil))) (len_cons (len_cons (len_nil)))) (by decide))))) (js_one (js_ret (j_bl))) (js_nil))
        (js_one (js_ret (j_callBL (c_all rfl) calm_all T.n_all bt_all (j_lc [("column", 2)] rfl sc_is_table.nd (j_src (j_call tk H_column_sums (hr.mono (by decide)) hG T.m_column_sums T.k_column_sums T.b_column_sums (j_cons (j_v 0) (j_nil)) (len_cons (len_nil)))) (blk_ok rfl rfl) (fun _ _ _ _ _ => jg_name 2 sc_is_table.nd rfl (Or.inl rfl)) (fun _ _ _ _ _ => jc_nil) (fun _ _ _ _ _ => j_call takes0 H_is_share (hr.mono (by decide)) hG T.m_is_share T.k_is_share T.b_is_share (j_cons (j_v 2) (j_nil)) (len_cons (len_nil))) (by decide))))))
theorem sc_built_anew : FnScope n_built_anew ["value"] (defScope s_built_anew) := ⟨rfl, rfl, rfl, by decide +kernel, rfl, by decide +kernel, by decide +kernel⟩
theorem ok_built_anew (T : Txt K mg) : ∀ n : Nat, n ≤ 8 → FnG P w K mg base (2 + n) T.a_built_anew T.d_built_anew ["value"] (spF K mg 1 (f_built_anew n))
  | 0, _ => ⟨fun vs H Q E h => h.1, fun A outer s H args us vs Q E _ _ _ _ _ want => by
      obtain ⟨_, ι, S, ds, _, _, f⟩ := want
      exact f.elim⟩
  | n + 1, hn => by
    have ih := ok_built_anew T n (by omega)
    exact fn_ok T.F_built_anew sc_built_anew fun cdv A outer s H E hr hG tk => 
    js_cons (js_if (j_t (j_isTy T.n_isinstance T.n_list bt_list (by decide +kernel) (j_v 0))) (js_one (js_ret (j_box (j_lc [("entry", 1)] rfl sc_built_anew.nd (j_src (j_v 0)) (blk_ok rfl rfl) (fun _ _ _ _ _ => jg_name 1 sc_built_anew.nd rfl (Or.inl rfl)) (fun _ _ _ _ _ => jc_nil) (fun _ _ _ _ _ => j_call takes0 ih hr hG T.m_built_anew T.k_built_anew T.b_built_anew (j_cons (j_v 1) (j_nil)) (len_cons (len_nil))) (by decide))))) (js_nil))
        (js_cons (js_if (j_t (j_isTy T.n_isinstance T.n_tuple bt_tuple (by decide +kernel) (j_v 0))) (js_one (js_ret (j_callTyL c_tupL calm_tupL T.n_tuple bt_tuple (j_lc [("entry", 1)] rfl sc_built_anew.nd (j_src (j_v 0)) (blk_ok rfl rfl) (fun _ _ _ _ _ => jg_name 1 sc_built_anew.nd rfl (Or.inl rfl)) (fun _ _ _ _ _ => jc_nil) (fun _ _ _ _ _ => j_call takes0 ih hr hG T.m_built_anew T.k_built_anew T.b_built_anew (j_cons (j_v 1) (j_nil)) (len_cons (len_nil))) (by decide))))) (js_nil))
        (js_one (js_ret (j_v 0))))
theorem sc_check_table : FnScope n_check_table ["value"] (defScope s_check_table) := ⟨rfl, rfl, rfl, by decide +kernel, rfl, by decide +kernel, by decide +kernel⟩
theorem ok_check_table (T : Txt K mg) (H_init : FnOk P w K mg base (L2.CX P w) 1 T.a_init T.d_init ["self", "value"] (spInit K)) (H_is_table : FnG P w K mg base 7 T.a_is_table T.d_is_table ["value"] (spF K mg 1 f_is_table)) (H_built_anew : FnG P w K mg base 10 T.a_built_anew T.d_built_anew ["value"] (spF K mg 1 (f_built_anew 8))) : FnG P w K mg base 11 T.a_check_table T.d_check_table ["value"] (spF K mg 1 f_check_table) := fn_ok T.F_check_table sc_check_table fun cdv A outer s H E hr hG tk =>
    js_one (js_if (j_not (j_t (j_call tk H_is_table (hr.mono (by decide)) hG T.m_is_table T.k_is_table T.b_is_table (j_cons (j_v 0) (j_nil)) (len_cons (len_nil))))) (js_one (js_raise rfl tk T.e_InvalidTable T.t_init H_init T.b_init (hr.mono (by decide)) (j_call tk H_built_anew (hr.mono (by decide)) hG T.m_built_anew T.k_built_anew T.b_built_anew (j_cons (j_v 0) (j_nil)) (len_cons (len_nil))))) (js_nil))
theorem sc_rows_of : FnScope n_rows_of ["grid"] (defScope s_rows_of) := ⟨rfl, rfl, rfl, by decide +kernel, rfl, by decide +kernel, by decide +kernel⟩
theorem ok_rows_of (T : Txt K mg) (H_reduced : FnG P w K mg base 3 T.a_reduced T.d_reduced ["above", "below"] (spF K mg 2 f_reduced)) : FnG P w K mg base 4 T.a_rows_of T.d_rows_of ["grid"] (spF K mg 1 f_rows_of) := fn_ok T.F_rows_of sc_rows_of fun cdv A outer s H E hr hG tk =>
    js_cons (js_asg (jg_tup rfl (jgs_cons (jg_name 1 sc_rows_of.nd rfl (Or.inl rfl)) (jgs_cons (jg_name 2 sc_rows_of.nd rfl (Or.inr rfl)) (jgs_nil)))) (j_v 0))
        (js_one (js_ret (j_callTyL c_tupL calm_tupL T.n_tuple bt_tuple (j_lc [("row", 4)] rfl sc_rows_of.nd (j_src (j_v 1)) (blk_ok rfl rfl) (fun _ _ _ _ _ => jg_name 4 sc_rows_of.nd rfl (Or.inl rfl)) (fun _ _ _ _ _ => jc_nil) (fun _ _ _ _ _ => j_callTyL c_tupL calm_tupL T.n_tuple bt_tuple (j_lc [("number", 3)] rfl sc_rows_of.nd (j_src (j_v 4)) (blk_ok rfl rfl) (fun _ _ _ _ _ => jg_name 3 sc_rows_of.nd rfl (Or.inl rfl)) (fun _ _ _ _ _ => jc_nil) (fun _ _ _ _ _ => j_call takes0 H_reduced (hr.mono (by decide)) hG T.m_reduced T.k_reduced T.b_reduced (j_cons (j_v 3) (j_cons (j_v 2) (j_nil))) (len_cons (len_cons (len_nil)))) (by decide))) (by decide)))))
theorem sc_product_of : FnScope n_product_of ["one", "other"] (defScope s_product_of) := ⟨rfl, rfl, rfl, by decide +kernel, rfl, by decide +kernel, by decide +kernel⟩
theorem ok_product_of (T : Txt K mg) : FnG P w K mg base 3 T.a_product_of T.d_product_of ["one", "other"] (spF K mg 2 f_product_of) := fn_ok T.F_product_of sc_product_of fun cdv A outer s H E hr hG tk =>
    js_cons (js_set 2 sc_product_of.nd rfl (Or.inr rfl) (j_box (j_lc [("at", 4)] rfl sc_product_of.nd (j_range1 T.n_range (j_callB c_len calm_len T.n_len bt_len (j_cons (j_ix (j_ix (j_v 1) (j_int)) (j_int)) (j_nil)))) (blk_ok rfl rfl) (fun _ _ _ _ _ => jg_name 4 sc_product_of.nd rfl (Or.inr rfl)) (fun _ _ _ _ _ => jc_nil) (fun _ _ _ _ _ => j_box (j_lc [("row", 3)] rfl sc_product_of.nd (j_src (j_ix (j_v 1) (j_int))) (blk_ok rfl rfl) (fun _ _ _ _ _ => jg_name 3 sc_product_of.nd rfl (Or.inl rfl)) (fun _ _ _ _ _ => jc_nil) (fun _ _ _ _ _ => j_ix (j_v 3) (j_v 4)) (by decide))) (by decide))))
        (js_cons (js_lset 5 [("row", 3)] rfl sc_product_of.nd rfl rfl rfl (j_src (j_ix (j_v 0) (j_int))) (blk_ok rfl rfl) (fun _ _ _ _ _ => jg_name 3 sc_product_of.nd rfl (Or.inr rfl)) (fun _ _ _ _ _ => jc_nil) (fun _ _ _ _ _ => j_box (j_lc [("column", 8)] rfl sc_product_of.nd (j_src (j_v 2)) (blk_ok rfl rfl) (fun _ _ _ _ _ => jg_name 8 sc_product_of.nd rfl (Or.inl rfl)) (fun _ _ _ _ _ => jc_nil) (fun _ _ _ _ _ => j_callBL (c_sum rfl) calm_sum T.n_sum bt_sum (j_lc [("x", 6), ("y", 7)] rfl sc_product_of.nd (j_zip T.n_zip (j_v 3) (j_v 8)) (blk_ok rfl rfl) (fun _ _ _ _ _ => jg_tup rfl (jgs_cons (jg_name 6 sc_product_of.nd rfl (Or.inl rfl)) (jgs_cons (jg_name 7 sc_product_of.nd rfl (Or.inl rfl)) (jgs_nil)))) (fun _ _ _ _ _ => jc_nil) (fun _ _ _ _ _ => j_op o_mul calm_mul (j_v 6) (j_v 7)) (by decide))) (by decide))) (by decide))
        (js_one (js_ret (j_tup (j_cons (j_v 5) (j_cons (j_op o_mul calm_mul (j_ix (j_v 0) (j_int)) (j_ix (j_v 1) (j_int))) (j_nil)))))))
theorem sc_common : FnScope n_common ["fractions"] (defScope s_common) := ⟨rfl, rfl, rfl, by decide +kernel, rfl, by decide +kernel, by decide +kernel⟩
theorem ok_common (T : Txt K mg) : FnG P w K mg base 3 T.a_common T.d_common ["fractions"] (spF K mg 1 f_common) := fn_ok T.F_common sc_common fun cdv A outer s H E hr hG tk =>
    js_cons (js_set 1 sc_common.nd rfl (Or.inr rfl) (j_int))
        (js_cons (js_for (passes_of rfl) rfl (j_src (j_v 0)) (jg_name 2 sc_common.nd rfl (Or.inl rfl)) (js_one (js_set 1 sc_common.nd rfl (Or.inr rfl) (j_callF c_lcm calm_lcm T.n_lcm (j_cons (j_v 1) (j_cons (j_ix (j_v 2) (j_int)) (j_nil)))))))
        (js_one (js_ret (j_tup (j_cons (j_box (j_lc [("entry", 2)] rfl sc_common.nd (j_src (j_v 0)) (blk_ok rfl rfl) (fun _ _ _ _ _ => jg_name 2 sc_common.nd rfl (Or.inl rfl)) (fun _ _ _ _ _ => jc_nil) (fun _ _ _ _ _ => j_op o_mul calm_mul (j_ix (j_v 2) (j_int)) (j_op o_div calm_int2 (j_v 1) (j_ix (j_v 2) (j_int)))) (by decide))) (j_cons (j_v 1) (j_nil)))))))
theorem sc_grid_of : FnScope n_grid_of ["rows"] (defScope s_grid_of) := ⟨rfl, rfl, rfl, by decide +kernel, rfl, by decide +kernel, by decide +kernel⟩
theorem ok_grid_of (T : Txt K mg) (H_common : FnG P w K mg base 3 T.a_common T.d_common ["fractions"] (spF K mg 1 f_common)) : FnG P w K mg base 4 T.a_grid_of T.d_grid_of ["rows"] (spF K mg 1 f_grid_of) := fn_ok T.F_grid_of sc_grid_of fun cdv A outer s H E hr hG tk =>
    js_cons (js_set 1 sc_grid_of.nd rfl (Or.inr rfl) (j_callB c_len calm_len T.n_len bt_len (j_cons (j_ix (j_v 0) (j_int)) (j_nil))))
        (js_cons (js_asg (jg_tup rfl (jgs_cons (jg_name 2 sc_grid_of.nd rfl (Or.inr rfl)) (jgs_cons (jg_name 3 sc_grid_of.nd rfl (Or.inl rfl)) (jgs_nil)))) (j_call tk H_common (hr.mono (by decide)) hG T.m_common T.k_common T.b_common (j_cons (j_box (j_lc2 [("row", 4), ("entry", 5)] [5] rfl sc_grid_of.nd (j_src (j_v 0)) (blk_ok rfl rfl) (by decide) (fun _ _ _ _ _ => jg_name 4 sc_grid_of.nd rfl (Or.inl rfl)) (fun _ _ _ _ _ => jc_nil) (fun _ _ _ _ _ => j_src (j_v 4)) (fun _ _ _ _ _ => jg_name 5 sc_grid_of.nd rfl (Or.inl rfl)) (fun _ _ _ _ _ => jc_nil) (fun _ _ _ _ _ => j_v 5) (by decide) (by decide))) (j_nil)) (len_cons (len_nil))))
        (js_one (js_ret (j_tup (j_cons (j_box (j_lc [("at", 6)] rfl sc_grid_of.nd (j_range3 T.n_range (j_int) (j_callB c_len calm_len T.n_len bt_len (j_cons (j_v 2) (j_nil))) (j_v 1)) (blk_ok rfl rfl) (fun _ _ _ _ _ => jg_name 6 sc_grid_of.nd rfl (Or.inl rfl)) (fun _ _ _ _ _ => jc_nil) (fun _ _ _ _ _ => j_slice (j_v 2) (.some (j_v 6)) (.some (j_op o_add calm_add (j_v 6) (j_v 1)))) (by decide))) (j_cons (j_v 3) (j_nil)))))))
theorem sc_behind : FnScope n_behind ["one", "other"] (defScope s_behind) := ⟨rfl, rfl, rfl, by decide +kernel, rfl, by decide +kernel, by decide +kernel⟩
theorem ok_behind (T : Txt K mg) (H_init : FnOk P w K mg base (L2.CX P w) 1 T.a_init T.d_init ["self", "value"] (spInit K)) (H_check_table : FnG P w K mg base 11 T.a_check_table T.d_check_table ["value"] (spF K mg 1 f_check_table)) (H_grid_of : FnG P w K mg base 4 T.a_grid_of T.d_grid_of ["rows"] (spF K mg 1 f_grid_of)) (H_product_of : FnG P w K mg base 3 T.a_product_of T.d_product_of ["one", "other"] (spF K mg 2 f_product_of)) (H_rows_of : FnG P w K mg base 4 T.a_rows_of T.d_rows_of ["grid"] (spF K mg 1 f_rows_of)) : FnG P w K mg base 12 T.a_behind T.d_behind ["one", "other"] (spF K mg 2 f_behind) := fn_ok T.F_behind sc_behind fun cdv A outer s H E hr hG tk =>
    js_cons (js_expr (j_call tk H_check_table (hr.mono (by decide)) hG T.m_check_table T.k_check_table T.b_check_table (j_cons (j_v 0) (j_nil)) (len_cons (len_nil))))
        (js_cons (js_expr (j_call tk H_check_table (hr.mono (by decide)) hG T.m_check_table T.k_check_table T.b_check_table (j_cons (j_v 1) (j_nil)) (len_cons (len_nil))))
        (js_cons (js_if (j_tcmp (o_ne hr.units) calm_eq (j_callB c_len calm_len T.n_len bt_len (j_cons (j_v 0) (j_nil))) (j_callB c_len calm_len T.n_len bt_len (j_cons (j_v 1) (j_nil))) (nomark _)) (js_one (js_raise rfl tk T.e_Unlike T.t_init H_init T.b_init (hr.mono (by decide)) (j_callB c_len calm_len T.n_len bt_len (j_cons (j_v 1) (j_nil))))) (js_nil))
        (js_one (js_ret (j_call tk H_rows_of (hr.mono (by decide)) hG T.m_rows_of T.k_rows_of T.b_rows_of (j_cons (j_call tk H_product_of (hr.mono (by decide)) hG T.m_product_of T.k_product_of T.b_product_of (j_cons (j_call tk H_grid_of (hr.mono (by decide)) hG T.m_grid_of T.k_grid_of T.b_grid_of (j_cons (j_v 1) (j_nil)) (len_cons (len_nil))) (j_cons (j_call tk H_grid_of (hr.mono (by decide)) hG T.m_grid_of T.k_grid_of T.b_grid_of (j_cons (j_v 0) (j_nil)) (len_cons (len_nil))) (j_nil))) (len_cons (len_cons (len_nil)))) (j_nil)) (len_cons (len_nil)))))))
theorem sc_check_rounds : FnScope n_check_rounds ["rounds"] (defScope s_check_rounds) := ⟨rfl, rfl, rfl, by decide +kernel, rfl, by decide +kernel, by decide +kernel⟩
theorem ok_check_rounds (T : Txt K mg) (H_init : FnOk P w K mg base (L2.CX P w) 1 T.a_init T.d_init ["self", "value"] (spInit K)) : FnG P w K mg base 3 T.a_check_rounds T.d_check_rounds ["rounds"] (spF K mg 1 f_check_rounds) := fn_ok T.F_check_rounds sc_check_rounds fun cdv A outer s H E hr hG tk =>
    js_one (js_if (j_tcmp o_lt calm_int2 (j_v 0) (j_int) (nomark _)) (js_one (js_raise rfl tk T.e_InvalidNumber T.t_init H_init T.b_init (hr.mono (by decide)) (j_v 0))) (js_nil))
theorem sc_still_grid : FnScope n_still_grid ["casks"] (defScope s_still_grid) := ⟨rfl, rfl, rfl, by decide +kernel, rfl, by decide +kernel, by decide +kernel⟩
theorem ok_still_grid (T : Txt K mg) : FnG P w K mg base 3 T.a_still_grid T.d_still_grid ["casks"] (spF K mg 1 f_still_grid) := fn_ok T.F_still_grid sc_still_grid fun cdv A outer s H E hr hG tk =>
    js_one (js_ret (j_tup (j_cons (j_box (j_lc [("row", 2)] rfl sc_still_grid.nd (j_range1 T.n_range (j_v 0)) (blk_ok rfl rfl) (fun _ _ _ _ _ => jg_name 2 sc_still_grid.nd rfl (Or.inr rfl)) (fun _ _ _ _ _ => jc_nil) (fun _ _ _ _ _ => j_box (j_lc [("column", 1)] rfl sc_still_grid.nd (j_range1 T.n_range (j_v 0)) (blk_ok rfl rfl) (fun _ _ _ _ _ => jg_name 1 sc_still_grid.nd rfl (Or.inl rfl)) (fun _ _ _ _ _ => jc_nil) (fun _ _ _ _ _ => j_if (j_tcmp (o_eq hr.units) calm_eq (j_v 2) (j_v 1) (nomark _)) (j_int) (j_int)) (by decide))) (by decide))) (j_cons (j_int) (j_nil)))))
theorem sc_power_of : FnScope n_power_of ["grid", "rounds"] (defScope s_power_of) := ⟨rfl, rfl, rfl, by decide +kernel, rfl, by decide +kernel, by decide +kernel⟩
theorem ok_power_of (T : Txt K mg) (H_still_grid : FnG P w K mg base 3 T.a_still_grid T.d_still_grid ["casks"] (spF K mg 1 f_still_grid)) (H_product_of : FnG P w K mg base 3 T.a_product_of T.d_product_of ["one", "other"] (spF K mg 2 f_product_of)) : FnG P w K mg base 4 T.a_power_of T.d_power_of ["grid", "rounds"] (spF K mg 2 f_power_of) := fn_ok T.F_power_of sc_power_of fun cdv A outer s H E hr hG tk =>
    js_cons (js_par3 2 3 4 rfl sc_power_of.nd rfl rfl rfl (by decide) (by decide) (by decide) rfl rfl rfl (j_call tk H_still_grid (hr.mono (by decide)) hG T.m_still_grid T.k_still_grid T.b_still_grid (j_cons (j_callB c_len calm_len T.n_len bt_len (j_cons (j_ix (j_v 0) (j_int)) (j_nil))) (j_nil)) (len_cons (len_nil))) (j_v 0) (j_v 1) rfl)
        (js_cons (js_while 4000 (passes_of rfl) (j_tcmp o_gt calm_int2 (j_v 4) (j_int) (nomark _)) (js_cons (js_if (j_tcmp (o_eq hr.units) calm_eq (j_op o_mod calm_int2 (j_v 4) (j_int)) (j_int) (nomark _)) (js_one (js_set 2 sc_power_of.nd rfl (Or.inl rfl) (j_call tk H_product_of (hr.mono (by decide)) hG T.m_product_of T.k_product_of T.b_product_of (j_cons (j_v 3) (j_cons (j_v 2) (j_nil))) (len_cons (len_cons (len_nil)))))) (js_nil))
        (js_cons (js_set 4 sc_power_of.nd rfl (Or.inl rfl) (j_op o_div calm_int2 (j_v 4) (j_int)))
        (js_one (js_if (j_tcmp o_gt calm_int2 (j_v 4) (j_int) (nomark _)) (js_one (js_set 3 sc_power_of.nd rfl (Or.inl rfl) (j_call tk H_product_of (hr.mono (by decide)) hG T.m_product_of T.k_product_of T.b_product_of (j_cons (j_v 3) (j_cons (j_v 3) (j_nil))) (len_cons (len_cons (len_nil)))))) (js_nil))))))
        (js_one (js_ret (j_v 2))))
theorem sc_reduced_by : FnScope n_reduced_by ["number", "below", "base"] (defScope s_reduced_by) := ⟨rfl, rfl, rfl, by decide +kernel, rfl, by decide +kernel, by decide +kernel⟩
theorem ok_reduced_by (T : Txt K mg) : FnG P w K mg base 3 T.a_reduced_by T.d_reduced_by ["number", "below", "base"] (spF K mg 3 f_reduced_by) := fn_ok T.F_reduced_by sc_reduced_by fun cdv A outer s H E hr hG tk =>
    js_cons (js_if (j_tcmp (o_eq hr.units) calm_eq (j_v 0) (j_int) (nomark _)) (js_one (js_ret (j_globT T.c_ZERO T.z_ZERO (fun _ => rds_ints [0, 1])))) (js_nil))
        (js_cons (js_par3 3 4 5 rfl sc_reduced_by.nd rfl rfl rfl (by decide) (by decide) (by decide) rfl rfl rfl (j_int) (j_v 0) (j_callF c_gcd calm_gcd T.n_gcd (j_cons (j_v 0) (j_cons (j_v 2) (j_nil)))) rfl)
        (js_cons (js_while 4000 (passes_of rfl) (j_tcmp o_gt calm_int2 (j_v 5) (j_int) (nomark _)) (js_cons (js_par 3 4 rfl sc_reduced_by.nd rfl rfl (by decide) rfl rfl (j_op o_mul calm_mul (j_v 3) (j_v 5)) (j_op o_div calm_int2 (j_v 4) (j_v 5)) rfl)
        (js_one (js_set 5 sc_reduced_by.nd rfl (Or.inl rfl) (j_callF c_gcd calm_gcd T.n_gcd (j_cons (j_v 4) (j_cons (j_op o_mul calm_mul (j_v 5) (j_v 5)) (j_nil))))))))
        (js_cons (js_set 6 sc_reduced_by.nd rfl (Or.inl rfl) (j_callF c_gcd calm_gcd T.n_gcd (j_cons (j_v 3) (j_cons (j_v 1) (j_nil)))))
        (js_one (js_ret (j_tup (j_cons (j_op o_div calm_int2 (j_v 0) (j_v 6)) (j_cons (j_op o_div calm_int2 (j_v 1) (j_v 6)) (j_nil)))))))))
theorem sc_powered : FnScope n_powered ["grid", "rounds"] (defScope s_powered) := ⟨rfl, rfl, rfl, by decide +kernel, rfl, by decide +kernel, by decide +kernel⟩
theorem ok_powered (T : Txt K mg) (H_power_of : FnG P w K mg base 4 T.a_power_of T.d_power_of ["grid", "rounds"] (spF K mg 2 f_power_of)) (H_reduced_by : FnG P w K mg base 3 T.a_reduced_by T.d_reduced_by ["number", "below", "base"] (spF K mg 3 f_reduced_by)) : FnG P w K mg base 5 T.a_powered T.d_powered ["grid", "rounds"] (spF K mg 2 f_powered) := fn_ok T.F_powered sc_powered fun cdv A outer s H E hr hG tk =>
    js_cons (js_asg (jg_tup rfl (jgs_cons (jg_name 2 sc_powered.nd rfl (Or.inl rfl)) (jgs_cons (jg_name 3 sc_powered.nd rfl (Or.inr rfl)) (jgs_nil)))) (j_call tk H_power_of (hr.mono (by decide)) hG T.m_power_of T.k_power_of T.b_power_of (j_cons (j_v 0) (j_cons (j_v 1) (j_nil))) (len_cons (len_cons (len_nil)))))
        (js_one (js_ret (j_callTyL c_tupL calm_tupL T.n_tuple bt_tuple (j_lc [("row", 5)] rfl sc_powered.nd (j_src (j_v 2)) (blk_ok rfl rfl) (fun _ _ _ _ _ => jg_name 5 sc_powered.nd rfl (Or.inl rfl)) (fun _ _ _ _ _ => jc_nil) (fun _ _ _ _ _ => j_callTyL c_tupL calm_tupL T.n_tuple bt_tuple (j_lc [("number", 4)] rfl sc_powered.nd (j_src (j_v 5)) (blk_ok rfl rfl) (fun _ _ _ _ _ => jg_name 4 sc_powered.nd rfl (Or.inl rfl)) (fun _ _ _ _ _ => jc_nil) (fun _ _ _ _ _ => j_call takes0 H_reduced_by (hr.mono (by decide)) hG T.m_reduced_by T.k_reduced_by T.b_reduced_by (j_cons (j_v 4) (j_cons (j_v 3) (j_cons (j_ix (j_v 0) (j_int)) (j_nil)))) (len_cons (len_cons (len_cons (len_nil))))) (by decide))) (by decide)))))
theorem sc_power : FnScope n_power ["table", "rounds"] (defScope s_power) := ⟨rfl, rfl, rfl, by decide +kernel, rfl, by decide +kernel, by decide +kernel⟩
theorem ok_power (T : Txt K mg) (H_check_table : FnG P w K mg base 11 T.a_check_table T.d_check_table ["value"] (spF K mg 1 f_check_table)) (H_check_rounds : FnG P w K mg base 3 T.a_check_rounds T.d_check_rounds ["rounds"] (spF K mg 1 f_check_rounds)) (H_grid_of : FnG P w K mg base 4 T.a_grid_of T.d_grid_of ["rows"] (spF K mg 1 f_grid_of)) (H_powered : FnG P w K mg base 5 T.a_powered T.d_powered ["grid", "rounds"] (spF K mg 2 f_powered)) : FnG P w K mg base 12 T.a_power T.d_power ["table", "rounds"] (spF K mg 2 f_power) := fn_ok T.F_power sc_power fun cdv A outer s H E hr hG tk =>
    js_cons (js_expr (j_call tk H_check_table (hr.mono (by decide)) hG T.m_check_table T.k_check_table T.b_check_table (j_cons (j_v 0) (j_nil)) (len_cons (len_nil))))
        (js_cons (js_expr (j_call tk H_check_rounds (hr.mono (by decide)) hG T.m_check_rounds T.k_check_rounds T.b_check_rounds (j_cons (j_v 1) (j_nil)) (len_cons (len_nil))))
        (js_one (js_ret (j_call tk H_powered (hr.mono (by decide)) hG T.m_powered T.k_powered T.b_powered (j_cons (j_call tk H_grid_of (hr.mono (by decide)) hG T.m_grid_of T.k_grid_of T.b_grid_of (j_cons (j_v 0) (j_nil)) (len_cons (len_nil))) (j_cons (j_v 1) (j_nil))) (len_cons (len_cons (len_nil)))))))
theorem sc_keeps_all : FnScope n_keeps_all ["table"] (defScope s_keeps_all) := ⟨rfl, rfl, rfl, by decide +kernel, rfl, by decide +kernel, by decide +kernel⟩
theorem ok_keeps_all (T : Txt K mg) (H_check_table : FnG P w K mg base 11 T.a_check_table T.d_check_table ["value"] (spF K mg 1 f_check_table)) (H_column_sums : FnG P w K mg base 6 T.a_column_sums T.d_column_sums ["table"] (spF K mg 1 f_column_sums)) : FnG P w K mg base 12 T.a_keeps_all T.d_keeps_all ["table"] (spF K mg 1 f_keeps_all) := fn_ok T.F_keeps_all sc_keeps_all fun cdv A outer s H E hr hG tk =>
    js_cons (js_expr (j_call tk H_check_table (hr.mono (by decide)) hG T.m_check_table T.k_check_table T.b_check_table (j_cons (j_v 0) (j_nil)) (len_cons (len_nil))))
        (js_one (js_ret (j_callBL (c_all rfl) calm_all T.n_all bt_all (j_lc [("column", 1)] rfl sc_keeps_all.nd (j_src (j_call tk H_column_sums (hr.mono (by decide)) hG T.m_column_sums T.k_column_sums T.b_column_sums (j_cons (j_v 0) (j_nil)) (len_cons (len_nil)))) (blk_ok rfl rfl) (fun _ _ _ _ _ => jg_name 1 sc_keeps_all.nd rfl (Or.inl rfl)) (fun _ _ _ _ _ => jc_nil) (fun _ _ _ _ _ => j_cmp (o_eq hr.units) calm_eq (j_v 1) (j_globT T.c_ONE T.z_ONE (fun _ => rds_ints [1, 1])) (nomark _)) (by decide)))))
theorem sc_check_casks : FnScope n_check_casks ["casks"] (defScope s_check_casks) := ⟨rfl, rfl, rfl, by decide +kernel, rfl, by decide +kernel, by decide +kernel⟩
theorem ok_check_casks (T : Txt K mg) (H_init : FnOk P w K mg base (L2.CX P w) 1 T.a_init T.d_init ["self", "value"] (spInit K)) : FnG P w K mg base 3 T.a_check_casks T.d_check_casks ["casks"] (spF K mg 1 f_check_casks) := fn_ok T.F_check_casks sc_check_casks fun cdv A outer s H E hr hG tk =>
    js_one (js_if (j_not (j_tchain o_le calm_int2 o_le calm_int2 (j_int) (j_v 0) (j_const (pe_glob (v := V.int 8) rfl T.c_MOST_CASKS ⟨_, rfl⟩) fun _ _ _ => .int _))) (js_one (js_raise rfl tk T.e_InvalidNumber T.t_init H_init T.b_init (hr.mono (by decide)) (j_v 0))) (js_nil))
theorem sc_still : FnScope n_still ["casks"] (defScope s_still) := ⟨rfl, rfl, rfl, by decide +kernel, rfl, by decide +kernel, by decide +kernel⟩
theorem ok_still (T : Txt K mg) (H_check_casks : FnG P w K mg base 3 T.a_check_casks T.d_check_casks ["casks"] (spF K mg 1 f_check_casks)) (H_still_grid : FnG P w K mg base 3 T.a_still_grid T.d_still_grid ["casks"] (spF K mg 1 f_still_grid)) (H_rows_of : FnG P w K mg base 4 T.a_rows_of T.d_rows_of ["grid"] (spF K mg 1 f_rows_of)) : FnG P w K mg base 5 T.a_still T.d_still ["casks"] (spF K mg 1 f_still) := fn_ok T.F_still sc_still fun cdv A outer s H E hr hG tk =>
    js_cons (js_expr (j_call tk H_check_casks (hr.mono (by decide)) hG T.m_check_casks T.k_check_casks T.b_check_casks (j_cons (j_v 0) (j_nil)) (len_cons (len_nil))))
        (js_one (js_ret (j_call tk H_rows_of (hr.mono (by decide)) hG T.m_rows_of T.k_rows_of T.b_rows_of (j_cons (j_call tk H_still_grid (hr.mono (by decide)) hG T.m_still_grid T.k_still_grid T.b_still_grid (j_cons (j_v 0) (j_nil)) (len_cons (len_nil))) (j_nil)) (len_cons (len_nil)))))
theorem sc_caught : FnScope n_caught ["_law_way", "_law_one", "_law_other"] (defScope s_caught) := ⟨rfl, rfl, rfl, by decide +kernel, rfl, by decide +kernel, by decide +kernel⟩
theorem ok_caught (T : Txt K mg) (H_behind : FnG P w K mg base 12 T.a_behind T.d_behind ["one", "other"] (spF K mg 2 f_behind)) (H_power : FnG P w K mg base 12 T.a_power T.d_power ["table", "rounds"] (spF K mg 2 f_power)) (H_keeps_all : FnG P w K mg base 12 T.a_keeps_all T.d_keeps_all ["table"] (spF K mg 1 f_keeps_all)) (H_still : FnG P w K mg base 5 T.a_still T.d_still ["casks"] (spF K mg 1 f_still)) : FnG P w K mg base 13 T.a_caught T.d_caught ["_law_way", "_law_one", "_law_other"] (spF K mg 3 f_caught) := fn_ok T.F_caught sc_caught fun cdv A outer s H E hr hG tk =>
    js_cons (js_set 3 sc_caught.nd rfl (Or.inl rfl) (j_non))
        (js_cons (js_try 4 rfl rfl rfl sc_caught.nd rfl rfl ⟨rfl, by decide, Or.inl T.c_CaskError⟩ tk T.x_CaskError (fun W pn xe tk hp => js_one (js_if (j_tcmp (o_eq hr.units) calm_eq (j_v 0) (j_int) (nomark _)) (js_one (js_expr (j_call tk H_behind (hr.mono (by decide)) hG T.m_behind T.k_behind T.b_behind (j_cons (j_v 1) (j_cons (j_v 2) (j_nil))) (len_cons (len_cons (len_nil)))))) (js_one (js_if (j_tcmp (o_eq hr.units) calm_eq (j_v 0) (j_int) (nomark _)) (js_one (js_expr (j_call tk H_power (hr.mono (by decide)) hG T.m_power T.k_power T.b_power (j_cons (j_v 1) (j_cons (j_v 2) (j_nil))) (len_cons (len_cons (len_nil)))))) (js_one (js_if (j_tcmp (o_eq hr.units) calm_eq (j_v 0) (j_int) (nomark _)) (js_one (js_expr (j_call tk H_keeps_all (hr.mono (by decide)) hG T.m_keeps_all T.k_keeps_all T.b_keeps_all (j_cons (j_v 1) (j_nil)) (len_cons (len_nil))))) (js_one (js_expr (j_call tk H_still (hr.mono (by decide)) hG T.m_still T.k_still T.b_still (j_cons (j_v 1) (j_nil)) (len_cons (len_nil)))))))))))
        (fun a pn => js_one (js_set 3 sc_caught.nd rfl (Or.inl rfl) (j_v 4))))
        (js_one (js_ret (j_v 3))))
theorem sc_same : FnScope n_same ["_law_found", "_law_due"] (defScope s_same) := ⟨rfl, rfl, rfl, by decide +kernel, rfl, by decide +kernel, by decide +kernel⟩
theorem ok_same (T : Txt K mg) : ∀ n : Nat, n ≤ 8 → FnG P w K mg base (2 + n) T.a_same T.d_same ["_law_found", "_law_due"] (spF K mg 2 (f_same n))
  | 0, _ => ⟨fun vs H Q E h => h.1, fun A outer s H args us vs Q E _ _ _ _ _ want => by
      obtain ⟨_, ι, S, ds, _, _, f⟩ := want
      exact f.elim⟩
  | n + 1, hn => by
    have ih := ok_same T n (by omega)
    exact fn_ok T.F_same sc_same fun cdv A outer s H E hr hG tk => 
    js_cons (js_if (j_t (j_isTy T.n_isinstance T.n_tuple bt_tuple (by decide +kernel) (j_v 1))) (js_cons (js_if (j_pw (j_or (j_not (j_t (j_isTy T.n_isinstance T.n_tuple bt_tuple (by decide +kernel) (j_v 0)))) (j_or1 (j_tcmp (o_ne hr.units) calm_eq (j_callB c_len calm_len T.n_len bt_len (j_cons (j_v 0) (j_nil))) (j_callB c_len calm_len T.n_len bt_len (j_cons (j_v 1) (j_nil))) (nomark _))))) (js_one (js_ret (j_bl))) (js_nil))
        (js_one (js_ret (j_callBL (c_all rfl) calm_all T.n_all bt_all (j_lc [("_law_k", 2)] rfl sc_same.nd (j_range1 T.n_range (j_callB c_len calm_len T.n_len bt_len (j_cons (j_v 1) (j_nil)))) (blk_ok rfl rfl) (fun _ _ _ _ _ => jg_name 2 sc_same.nd rfl (Or.inl rfl)) (fun _ _ _ _ _ => jc_nil) (fun _ _ _ _ _ => j_call takes0 ih hr hG T.m_same T.k_same T.b_same (j_cons (j_ix (j_v 0) (j_v 2)) (j_cons (j_ix (j_v 1) (j_v 2)) (j_nil))) (len_cons (len_cons (len_nil)))) (by decide)))))) (js_nil))
        (js_cons (js_if (j_t (j_isTy T.n_isinstance T.n_bool bt_bool (by decide +kernel) (j_v 1))) (js_one (js_ret (j_andV (j_isTy T.n_isinstance T.n_bool bt_bool (by decide +kernel) (j_v 0)) (j_one (j_cmp (o_eq hr.units) calm_eq (j_v 0) (j_v 1) (nomark _)))))) (js_nil))
        (js_one (js_ret (j_andV (j_isTy T.n_isinstance T.n_int bt_int (by decide +kernel) (j_v 0)) (j_andV (j_notV (j_isTy T.n_isinstance T.n_bool bt_bool (by decide +kernel) (j_v 0))) (j_one (j_cmp (o_eq hr.units) calm_eq (j_v 0) (j_v 1) (nomark _))))))))
theorem sc_no_table : FnScope n_no_table ["_law_way", "_law_one", "_law_other", "_law_bad"] (defScope s_no_table) := ⟨rfl, rfl, rfl, by decide +kernel, rfl, by decide +kernel, by decide +kernel⟩
theorem ok_no_table (T : Txt K mg) (H_caught : FnG P w K mg base 13 T.a_caught T.d_caught ["_law_way", "_law_one", "_law_other"] (spF K mg 3 f_caught)) : FnG P w K mg base 14 T.a_no_table T.d_no_table ["_law_way", "_law_one", "_law_other", "_law_bad"] (spF K mg 4 f_no_table) := fn_ok T.F_no_table sc_no_table fun cdv A outer s H E hr hG tk =>
    js_cons (js_set 4 sc_no_table.nd rfl (Or.inl rfl) (j_call tk H_caught (hr.mono (by decide)) hG T.m_caught T.k_caught T.b_caught (j_cons (j_v 0) (j_cons (j_v 1) (j_cons (j_v 2) (j_nil)))) (len_cons (len_cons (len_cons (len_nil))))))
        (js_one (js_ret (j_andV (j_isE T.errs T.n_isinstance (j_v 4) (pe_glob (v := V.ref T.a_InvalidTable) rfl T.c_InvalidTable rfl) (fun _ h => h) T.i_InvalidTable) (j_one (j_cmp (o_eq hr.units) calm_eq (j_callB (c_repr hr.units hG) calm_repr T.n_repr bt_repr (j_cons (j_val T.errs (j_v 4)) (j_nil))) (j_callB (c_repr hr.units hG) calm_repr T.n_repr bt_repr (j_cons (j_v 3) (j_nil))) (nomark _))))))
theorem sc_refusals : FnScope n_refusals ["_law_jug_here", "_law_first", "_law_table", "_law_further"] (defScope s_refusals) := ⟨rfl, rfl, rfl, by decide +kernel, rfl, by decide +kernel, by decide +kernel⟩
theorem ok_refusals (T : Txt K mg) (H_spoilt : FnG P w K mg base 5 T.a_spoilt T.d_spoilt ["_law_jug_here", "_law_columns", "_law_belows", "_law_table"] (spF K mg 4 f_spoilt)) (H_is_table : FnG P w K mg base 7 T.a_is_table T.d_is_table ["value"] (spF K mg 1 f_is_table)) (H_no_table : FnG P w K mg base 14 T.a_no_table T.d_no_table ["_law_way", "_law_one", "_law_other", "_law_bad"] (spF K mg 4 f_no_table)) (H_drop : FnG P w K mg base 3 T.a_drop T.d_drop ["_law_jug_here", "_law_many"] (spF K mg 2 f_drop)) (H_caught : FnG P w K mg base 13 T.a_caught T.d_caught ["_law_way", "_law_one", "_law_other"] (spF K mg 3 f_caught)) (H_same : FnG P w K mg base 10 T.a_same T.d_same ["_law_found", "_law_due"] (spF K mg 2 (f_same 8))) : FnG P w K mg base 15 T.a_refusals T.d_refusals ["_law_jug_here", "_law_first", "_law_table", "_law_further"] (spF K mg 4 f_refusals) := fn_ok T.F_refusals sc_refusals fun cdv A outer s H E hr hG tk =>
    js_cons (js_set 4 sc_refusals.nd rfl (Or.inl rfl) (j_call tk H_spoilt (hr.mono (by decide)) hG T.m_spoilt T.k_spoilt T.b_spoilt (j_cons (j_v 0) (j_cons (j_ix (j_v 1) (j_int)) (j_cons (j_ix (j_v 1) (j_int)) (j_cons (j_v 2) (j_nil))))) (len_cons (len_cons (len_cons (len_cons (len_nil)))))))
        (js_cons (js_if (j_tcmp o_isnot calm_is (j_call tk H_is_table (hr.mono (by decide)) hG T.m_is_table T.k_is_table T.b_is_table (j_cons (j_v 4) (j_nil)) (len_cons (len_nil))) (j_bl) (nomark _)) (js_one (js_ret (j_bl))) (js_nil))
        (js_cons (js_if (j_pw (j_or (j_not (j_t (j_call tk H_no_table (hr.mono (by decide)) hG T.m_no_table T.k_no_table T.b_no_table (j_cons (j_int) (j_cons (j_v 4) (j_cons (j_v 3) (j_cons (j_v 4) (j_nil))))) (len_cons (len_cons (len_cons (len_cons (len_nil)))))))) (j_or1 (j_not (j_t (j_call tk H_no_table (hr.mono (by decide)) hG T.m_no_table T.k_no_table T.b_no_table (j_cons (j_int) (j_cons (j_v 2) (j_cons (j_v 4) (j_cons (j_v 4) (j_nil))))) (len_cons (len_cons (len_cons (len_cons (len_nil))))))))))) (js_one (js_ret (j_bl))) (js_nil))
        (js_cons (js_set 5 sc_refusals.nd rfl (Or.inl rfl) (j_op o_sub calm_int2 (j_op o_sub calm_int2 (j_int) (j_int)) (j_call tk H_drop (hr.mono (by decide)) hG T.m_drop T.k_drop T.b_drop (j_cons (j_v 0) (j_cons (j_int) (j_nil))) (len_cons (len_cons (len_nil))))))
        (js_cons (js_if (j_pw (j_or (j_not (j_t (j_call tk H_no_table (hr.mono (by decide)) hG T.m_no_table T.k_no_table T.b_no_table (j_cons (j_int) (j_cons (j_v 4) (j_cons (j_v 5) (j_cons (j_v 4) (j_nil))))) (len_cons (len_cons (len_cons (len_cons (len_nil)))))))) (j_or1 (j_not (j_t (j_call tk H_no_table (hr.mono (by decide)) hG T.m_no_table T.k_no_table T.b_no_table (j_cons (j_int) (j_cons (j_v 4) (j_cons (j_non) (j_cons (j_v 4) (j_nil))))) (len_cons (len_cons (len_cons (len_cons (len_nil))))))))))) (js_one (js_ret (j_bl))) (js_nil))
        (js_cons (js_set 6 sc_refusals.nd rfl (Or.inl rfl) (j_call tk H_caught (hr.mono (by decide)) hG T.m_caught T.k_caught T.b_caught (j_cons (j_int) (j_cons (j_v 2) (j_cons (j_v 5) (j_nil)))) (len_cons (len_cons (len_cons (len_nil))))))
        (js_cons (js_if (j_pw (j_or (j_not (j_t (j_isE T.errs T.n_isinstance (j_v 6) (pe_glob (v := V.ref T.a_InvalidNumber) rfl T.c_InvalidNumber rfl) (fun _ h => h) T.i_InvalidNumber))) (j_or1 (j_not (j_t (j_call tk H_same (hr.mono (by decide)) hG T.m_same T.k_same T.b_same (j_cons (j_val T.errs (j_v 6)) (j_cons (j_v 5) (j_nil))) (len_cons (len_cons (len_nil))))))))) (js_one (js_ret (j_bl))) (js_nil))
        (js_cons (js_set 6 sc_refusals.nd rfl (Or.inl rfl) (j_call tk H_caught (hr.mono (by decide)) hG T.m_caught T.k_caught T.b_caught (j_cons (j_int) (j_cons (j_v 2) (j_cons (j_v 3) (j_nil)))) (len_cons (len_cons (len_cons (len_nil))))))
        (js_cons (js_if (j_tcmp (o_eq hr.units) calm_eq (j_callB c_len calm_len T.n_len bt_len (j_cons (j_v 3) (j_nil))) (j_callB c_len calm_len T.n_len bt_len (j_cons (j_v 2) (j_nil))) (nomark _)) (js_one (js_ret (j_cmp o_is calm_is (j_v 6) (j_non) (nomark _)))) (js_nil))
        (js_one (js_ret (j_andV (j_isE T.errs T.n_isinstance (j_v 6) (pe_glob (v := V.ref T.a_Unlike) rfl T.c_Unlike rfl) (fun _ h => h) T.i_Unlike) (j_one (j_call tk H_same (hr.mono (by decide)) hG T.m_same T.k_same T.b_same (j_cons (j_val T.errs (j_v 6)) (j_cons (j_callB c_len calm_len T.n_len bt_len (j_cons (j_v 3) (j_nil))) (j_nil))) (len_cons (len_cons (len_nil))))))))))))))))
theorem sc_add : FnScope n_add ["_law_one", "_law_other"] (defScope s_add) := ⟨rfl, rfl, rfl, by decide +kernel, rfl, by decide +kernel, by decide +kernel⟩
theorem ok_add (T : Txt K mg) (H_low : FnG P w K mg base 3 T.a_low T.d_low ["_law_above", "_law_below"] (spF K mg 2 f_low)) : FnG P w K mg base 4 T.a_add T.d_add ["_law_one", "_law_other"] (spF K mg 2 f_add) := fn_ok T.F_add sc_add fun cdv A outer s H E hr hG tk =>
    js_one (js_ret (j_call tk H_low (hr.mono (by decide)) hG T.m_low T.k_low T.b_low (j_cons (j_op o_add calm_add (j_op o_mul calm_mul (j_ix (j_v 0) (j_int)) (j_ix (j_v 1) (j_int))) (j_op o_mul calm_mul (j_ix (j_v 1) (j_int)) (j_ix (j_v 0) (j_int)))) (j_cons (j_op o_mul calm_mul (j_ix (j_v 0) (j_int)) (j_ix (j_v 1) (j_int))) (j_nil))) (len_cons (len_cons (len_nil)))))
theorem sc_entry : FnScope n_entry ["_law_row", "_law_column_here"] (defScope s_entry) := ⟨rfl, rfl, rfl, by decide +kernel, rfl, by decide +kernel, by decide +kernel⟩
theorem ok_entry (T : Txt K mg) (H_add : FnG P w K mg base 4 T.a_add T.d_add ["_law_one", "_law_other"] (spF K mg 2 f_add)) : FnG P w K mg base 5 T.a_entry T.d_entry ["_law_row", "_law_column_here"] (spF K mg 2 f_entry) := fn_ok T.F_entry sc_entry fun cdv A outer s H E hr hG tk =>
    js_cons (js_set 2 sc_entry.nd rfl (Or.inl rfl) (j_tup (j_cons (j_int) (j_cons (j_int) (j_nil)))))
        (js_cons (js_for (passes_of rfl) rfl (j_range1 T.n_range (j_callB c_len calm_len T.n_len bt_len (j_cons (j_v 0) (j_nil)))) (jg_name 3 sc_entry.nd rfl (Or.inl rfl)) (js_one (js_set 2 sc_entry.nd rfl (Or.inl rfl) (j_call tk H_add (hr.mono (by decide)) hG T.m_add T.k_add T.b_add (j_cons (j_v 2) (j_cons (j_tup (j_cons (j_op o_mul calm_mul (j_ix (j_ix (j_v 0) (j_v 3)) (j_int)) (j_ix (j_ix (j_v 1) (j_v 3)) (j_int))) (j_cons (j_op o_mul calm_mul (j_ix (j_ix (j_v 0) (j_v 3)) (j_int)) (j_ix (j_ix (j_v 1) (j_v 3)) (j_int))) (j_nil)))) (j_nil))) (len_cons (len_cons (len_nil)))))))
        (js_one (js_ret (j_v 2))))
theorem sc_l_behind : FnScope n_l_behind ["_law_one", "_law_other"] (defScope s_l_behind) := ⟨rfl, rfl, rfl, by decide +kernel, rfl, by decide +kernel, by decide +kernel⟩
theorem ok_l_behind (T : Txt K mg) (H_entry : FnG P w K mg base 5 T.a_entry T.d_entry ["_law_row", "_law_column_here"] (spF K mg 2 f_entry)) : FnG P w K mg base 6 T.a_l_behind T.d_l_behind ["_law_one", "_law_other"] (spF K mg 2 f_l_behind) := fn_ok T.F_l_behind sc_l_behind fun cdv A outer s H E hr hG tk =>
    js_cons (js_lset 2 [("_law_cask", 4)] rfl sc_l_behind.nd rfl rfl rfl (j_range1 T.n_range (j_callB c_len calm_len T.n_len bt_len (j_cons (j_v 0) (j_nil)))) (blk_ok rfl rfl) (fun _ _ _ _ _ => jg_name 4 sc_l_behind.nd rfl (Or.inr rfl)) (fun _ _ _ _ _ => jc_nil) (fun _ _ _ _ _ => j_box (j_lc [("_law_row", 3)] rfl sc_l_behind.nd (j_src (j_v 0)) (blk_ok rfl rfl) (fun _ _ _ _ _ => jg_name 3 sc_l_behind.nd rfl (Or.inl rfl)) (fun _ _ _ _ _ => jc_nil) (fun _ _ _ _ _ => j_ix (j_v 3) (j_v 4)) (by decide))) (by decide))
        (js_cons (js_set 5 sc_l_behind.nd rfl (Or.inl rfl) (j_lst (j_nil)))
        (js_cons (js_for (passes_of rfl) rfl (j_src (j_v 1)) (jg_name 3 sc_l_behind.nd rfl (Or.inr rfl)) (js_one (js_expr (j_append (j_v 5) (j_callTyL c_tupL calm_tupL T.n_tuple bt_tuple (j_lc [("_law_column_here", 6)] rfl sc_l_behind.nd (j_src (j_v 2)) (blk_ok rfl rfl) (fun _ _ _ _ _ => jg_name 6 sc_l_behind.nd rfl (Or.inl rfl)) (fun _ _ _ _ _ => jc_nil) (fun _ _ _ _ _ => j_call takes0 H_entry (hr.mono (by decide)) hG T.m_entry T.k_entry T.b_entry (j_cons (j_v 3) (j_cons (j_v 6) (j_nil))) (len_cons (len_cons (len_nil)))) (by decide)))))))
        (js_one (js_ret (j_callTy c_tuple calm_tuple T.n_tuple bt_tuple (j_cons (j_v 5) (j_nil)))))))
theorem sc_l_still : FnScope n_l_still ["_law_casks"] (defScope s_l_still) := ⟨rfl, rfl, rfl, by decide +kernel, rfl, by decide +kernel, by decide +kernel⟩
theorem ok_l_still (T : Txt K mg) (H_still : FnG P w K mg base 5 T.a_still T.d_still ["casks"] (spF K mg 1 f_still)) (H_table_of : FnG P w K mg base 4 T.a_table_of T.d_table_of ["_law_columns", "_law_belows"] (spF K mg 2 f_table_of)) (H_same : FnG P w K mg base 10 T.a_same T.d_same ["_law_found", "_law_due"] (spF K mg 2 (f_same 8))) (H_caught : FnG P w K mg base 13 T.a_caught T.d_caught ["_law_way", "_law_one", "_law_other"] (spF K mg 3 f_caught)) : FnG P w K mg base 14 T.a_l_still T.d_l_still ["_law_casks"] (spF K mg 1 f_l_still) := fn_ok T.F_l_still sc_l_still fun cdv A outer s H E hr hG tk =>
    js_cons (js_if (j_pw (j_and (j_tcmp o_le calm_int2 (j_int) (j_v 0) (nomark _)) (j_and1 (j_tcmp o_le calm_int2 (j_v 0) (j_int) (nomark _))))) (js_cons (js_lset 1 [("_law_j", 3)] rfl sc_l_still.nd rfl rfl rfl (j_range1 T.n_range (j_v 0)) (blk_ok rfl rfl) (fun _ _ _ _ _ => jg_name 3 sc_l_still.nd rfl (Or.inr rfl)) (fun _ _ _ _ _ => jc_nil) (fun _ _ _ _ _ => j_box (j_lc [("_law_i", 2)] rfl sc_l_still.nd (j_range1 T.n_range (j_v 0)) (blk_ok rfl rfl) (fun _ _ _ _ _ => jg_name 2 sc_l_still.nd rfl (Or.inl rfl)) (fun _ _ _ _ _ => jc_nil) (fun _ _ _ _ _ => j_callTy c_int calm_int T.n_int bt_int (j_cons (j_cmp (o_eq hr.units) calm_eq (j_v 2) (j_v 3) (nomark _)) (j_nil))) (by decide))) (by decide))
        (js_one (js_ret (j_call tk H_same (hr.mono (by decide)) hG T.m_same T.k_same T.b_same (j_cons (j_call tk H_still (hr.mono (by decide)) hG T.m_still T.k_still T.b_still (j_cons (j_v 0) (j_nil)) (len_cons (len_nil))) (j_cons (j_call tk H_table_of (hr.mono (by decide)) hG T.m_table_of T.k_table_of T.b_table_of (j_cons (j_v 1) (j_cons (j_op o_mul calm_mul (j_lst (j_cons (j_int) (j_nil))) (j_v 0)) (j_nil))) (len_cons (len_cons (len_nil)))) (j_nil))) (len_cons (len_cons (len_nil))))))) (js_nil))
        (js_cons (js_set 4 sc_l_still.nd rfl (Or.inl rfl) (j_call tk H_caught (hr.mono (by decide)) hG T.m_caught T.k_caught T.b_caught (j_cons (j_int) (j_cons (j_v 0) (j_cons (j_non) (j_nil)))) (len_cons (len_cons (len_cons (len_nil))))))
        (js_one (js_ret (j_andV (j_isE T.errs T.n_isinstance (j_v 4) (pe_glob (v := V.ref T.a_InvalidNumber) rfl T.c_InvalidNumber rfl) (fun _ h => h) T.i_InvalidNumber) (j_one (j_call tk H_same (hr.mono (by decide)) hG T.m_same T.k_same T.b_same (j_cons (j_val T.errs (j_v 4)) (j_cons (j_v 0) (j_nil))) (len_cons (len_cons (len_nil)))))))))
theorem sc_l_powered : FnScope n_l_powered ["_law_columns", "_law_below", "_law_rounds"] (defScope s_l_powered) := ⟨rfl, rfl, rfl, by decide +kernel, rfl, by decide +kernel, by decide +kernel⟩
theorem ok_l_powered (T : Txt K mg) (H_table_of : FnG P w K mg base 4 T.a_table_of T.d_table_of ["_law_columns", "_law_belows"] (spF K mg 2 f_table_of)) : FnG P w K mg base 5 T.a_l_powered T.d_l_powered ["_law_columns", "_law_below", "_law_rounds"] (spF K mg 3 f_l_powered) := fn_ok T.F_l_powered sc_l_powered fun cdv A outer s H E hr hG tk =>
    js_cons (js_set 3 sc_l_powered.nd rfl (Or.inr rfl) (j_callB c_len calm_len T.n_len bt_len (j_cons (j_v 0) (j_nil))))
        (js_cons (js_lset 4 [("_law_j", 6)] rfl sc_l_powered.nd rfl rfl rfl (j_range1 T.n_range (j_v 3)) (blk_ok rfl rfl) (fun _ _ _ _ _ => jg_name 6 sc_l_powered.nd rfl (Or.inr rfl)) (fun _ _ _ _ _ => jc_nil) (fun _ _ _ _ _ => j_box (j_lc [("_law_i", 5)] rfl sc_l_powered.nd (j_range1 T.n_range (j_v 3)) (blk_ok rfl rfl) (fun _ _ _ _ _ => jg_name 5 sc_l_powered.nd rfl (Or.inl rfl)) (fun _ _ _ _ _ => jc_nil) (fun _ _ _ _ _ => j_callTy c_int calm_int T.n_int bt_int (j_cons (j_cmp (o_eq hr.units) calm_eq (j_v 5) (j_v 6) (nomark _)) (j_nil))) (by decide))) (by decide))
        (js_cons (js_set 7 sc_l_powered.nd rfl (Or.inl rfl) (j_int))
        (js_cons (js_for (passes_of rfl) rfl (j_range1 T.n_range (j_v 2)) (jg_name 8 sc_l_powered.nd rfl (Or.inl rfl)) (js_cons (js_set 9 sc_l_powered.nd rfl (Or.inl rfl) (j_lst (j_nil)))
        (js_cons (js_for (passes_of rfl) rfl (j_src (j_v 4)) (jg_name 10 sc_l_powered.nd rfl (Or.inr rfl)) (js_one (js_expr (j_append (j_v 9) (j_box (j_lc [("_law_i", 5)] rfl sc_l_powered.nd (j_range1 T.n_range (j_v 3)) (blk_ok rfl rfl) (fun _ _ _ _ _ => jg_name 5 sc_l_powered.nd rfl (Or.inr rfl)) (fun _ _ _ _ _ => jc_nil) (fun _ _ _ _ _ => j_callBL (c_sum rfl) calm_sum T.n_sum bt_sum (j_lc [("_law_k", 11)] rfl sc_l_powered.nd (j_range1 T.n_range (j_v 3)) (blk_ok rfl rfl) (fun _ _ _ _ _ => jg_name 11 sc_l_powered.nd rfl (Or.inl rfl)) (fun _ _ _ _ _ => jc_nil) (fun _ _ _ _ _ => j_op o_mul calm_mul (j_ix (j_ix (j_v 0) (j_v 11)) (j_v 5)) (j_ix (j_v 10) (j_v 11))) (by decide))) (by decide)))))))
        (js_cons (js_set 4 sc_l_powered.nd rfl (Or.inl rfl) (j_v 9))
        (js_one (js_set 7 sc_l_powered.nd rfl (Or.inl rfl) (j_op o_mul calm_mul (j_v 7) (j_v 1))))))))
        (js_one (js_ret (j_call tk H_table_of (hr.mono (by decide)) hG T.m_table_of T.k_table_of T.b_table_of (j_cons (j_v 4) (j_cons (j_op o_mul calm_mul (j_lst (j_cons (j_v 7) (j_nil))) (j_v 3)) (j_nil))) (len_cons (len_cons (len_nil)))))))))
theorem sc_right : FnScope n_right ["_law_jug_here"] (defScope s_right) := ⟨rfl, rfl, rfl, by decide +kernel, rfl, by decide +kernel, by decide +kernel⟩
theorem ok_right (T : Txt K mg) (H_drop : FnG P w K mg base 3 T.a_drop T.d_drop ["_law_jug_here", "_law_many"] (spF K mg 2 f_drop)) (H_draw : FnG P w K mg base 5 T.a_draw T.d_draw ["_law_jug_here", "_law_casks"] (spF K mg 2 f_draw)) (H_table_of : FnG P w K mg base 4 T.a_table_of T.d_table_of ["_law_columns", "_law_belows"] (spF K mg 2 f_table_of)) (H_is_table : FnG P w K mg base 7 T.a_is_table T.d_is_table ["value"] (spF K mg 1 f_is_table)) (H_behind : FnG P w K mg base 12 T.a_behind T.d_behind ["one", "other"] (spF K mg 2 f_behind)) (H_l_behind : FnG P w K mg base 6 T.a_l_behind T.d_l_behind ["_law_one", "_law_other"] (spF K mg 2 f_l_behind)) (H_same : FnG P w K mg base 10 T.a_same T.d_same ["_law_found", "_law_due"] (spF K mg 2 (f_same 8))) (H_keeps_all : FnG P w K mg base 12 T.a_keeps_all T.d_keeps_all ["table"] (spF K mg 1 f_keeps_all)) (H_l_still : FnG P w K mg base 14 T.a_l_still T.d_l_still ["_law_casks"] (spF K mg 1 f_l_still)) (H_column : FnG P w K mg base 4 T.a_column T.d_column ["_law_jug_here", "_law_casks", "_law_below"] (spF K mg 3 f_column)) (H_power : FnG P w K mg base 12 T.a_power T.d_power ["table", "rounds"] (spF K mg 2 f_power)) (H_l_powered : FnG P w K mg base 5 T.a_l_powered T.d_l_powered ["_law_columns", "_law_below", "_law_rounds"] (spF K mg 3 f_l_powered)) (H_still : FnG P w K mg base 5 T.a_still T.d_still ["casks"] (spF K mg 1 f_still)) (H_refusals : FnG P w K mg base 15 T.a_refusals T.d_refusals ["_law_jug_here", "_law_first", "_law_table", "_law_further"] (spF K mg 4 f_refusals)) : FnG P w K mg base 16 T.a_right T.d_right ["_law_jug_here"] (spF K mg 1 f_right) := fn_ok T.F_right sc_right fun cdv A outer s H E hr hG tk =>
    js_cons (js_set 1 sc_right.nd rfl (Or.inl rfl) (j_op o_add calm_add (j_int) (j_call tk H_drop (hr.mono (by decide)) hG T.m_drop T.k_drop T.b_drop (j_cons (j_v 0) (j_cons (j_ix (j_lst (j_cons (j_int) (j_cons (j_int) (j_cons (j_int) (j_nil))))) (j_call tk H_drop (hr.mono (by decide)) hG T.m_drop T.k_drop T.b_drop (j_cons (j_v 0) (j_cons (j_int) (j_nil))) (len_cons (len_cons (len_nil))))) (j_nil))) (len_cons (len_cons (len_nil))))))
        (js_cons (js_set 2 sc_right.nd rfl (Or.inr rfl) (j_call tk H_draw (hr.mono (by decide)) hG T.m_draw T.k_draw T.b_draw (j_cons (j_v 0) (j_cons (j_v 1) (j_nil))) (len_cons (len_cons (len_nil)))))
        (js_cons (js_set 3 sc_right.nd rfl (Or.inl rfl) (j_call tk H_table_of (hr.mono (by decide)) hG T.m_table_of T.k_table_of T.b_table_of (j_cons (j_ix (j_v 2) (j_int)) (j_cons (j_ix (j_v 2) (j_int)) (j_nil))) (len_cons (len_cons (len_nil)))))
        (js_cons (js_set 4 sc_right.nd rfl (Or.inl rfl) (j_call tk H_draw (hr.mono (by decide)) hG T.m_draw T.k_draw T.b_draw (j_cons (j_v 0) (j_cons (j_v 1) (j_nil))) (len_cons (len_cons (len_nil)))))
        (js_cons (js_set 5 sc_right.nd rfl (Or.inl rfl) (j_call tk H_table_of (hr.mono (by decide)) hG T.m_table_of T.k_table_of T.b_table_of (j_cons (j_ix (j_v 4) (j_int)) (j_cons (j_ix (j_v 4) (j_int)) (j_nil))) (len_cons (len_cons (len_nil)))))
        (js_cons (js_if (j_pw (j_or (j_tcmp o_isnot calm_is (j_call tk H_is_table (hr.mono (by decide)) hG T.m_is_table T.k_is_table T.b_is_table (j_cons (j_v 3) (j_nil)) (len_cons (len_nil))) (j_bl) (nomark _)) (j_or1 (j_tcmp o_isnot calm_is (j_call tk H_is_table (hr.mono (by decide)) hG T.m_is_table T.k_is_table T.b_is_table (j_cons (j_v 5) (j_nil)) (len_cons (len_nil))) (j_bl) (nomark _))))) (js_one (js_ret (j_bl))) (js_nil))
        (js_cons (js_if (j_not (j_t (j_call tk H_same (hr.mono (by decide)) hG T.m_same T.k_same T.b_same (j_cons (j_call tk H_behind (hr.mono (by decide)) hG T.m_behind T.k_behind T.b_behind (j_cons (j_v 3) (j_cons (j_v 5) (j_nil))) (len_cons (len_cons (len_nil)))) (j_cons (j_call tk H_l_behind (hr.mono (by decide)) hG T.m_l_behind T.k_l_behind T.b_l_behind (j_cons (j_v 3) (j_cons (j_v 5) (j_nil))) (len_cons (len_cons (len_nil)))) (j_nil))) (len_cons (len_cons (len_nil)))))) (js_one (js_ret (j_bl))) (js_nil))
        (js_cons (js_set 6 sc_right.nd rfl (Or.inl rfl) (j_callBL (c_all rfl) calm_all T.n_all bt_all (j_lc [("_law_j", 7)] rfl sc_right.nd (j_range1 T.n_range (j_v 1)) (blk_ok rfl rfl) (fun _ _ _ _ _ => jg_name 7 sc_right.nd rfl (Or.inl rfl)) (fun _ _ _ _ _ => jc_nil) (fun _ _ _ _ _ => j_cmp (o_eq hr.units) calm_eq (j_callB (c_sq (c_sum rfl)) (calm_sq calm_sum) T.n_sum bt_sum (j_cons (j_ix (j_ix (j_v 2) (j_int)) (j_v 7)) (j_nil))) (j_ix (j_ix (j_v 2) (j_int)) (j_v 7)) (nomark _)) (by decide))))
        (js_cons (js_if (j_pw (j_or (j_not (j_t (j_call tk H_same (hr.mono (by decide)) hG T.m_same T.k_same T.b_same (j_cons (j_call tk H_keeps_all (hr.mono (by decide)) hG T.m_keeps_all T.k_keeps_all T.b_keeps_all (j_cons (j_v 3) (j_nil)) (len_cons (len_nil))) (j_cons (j_v 6) (j_nil))) (len_cons (len_cons (len_nil)))))) (j_or1 (j_not (j_t (j_call tk H_l_still (hr.mono (by decide)) hG T.m_l_still T.k_l_still T.b_l_still (j_cons (j_op o_sub calm_int2 (j_call tk H_drop (hr.mono (by decide)) hG T.m_drop T.k_drop T.b_drop (j_cons (j_v 0) (j_cons (j_int) (j_nil))) (len_cons (len_cons (len_nil)))) (j_int)) (j_nil)) (len_cons (len_nil)))))))) (js_one (js_ret (j_bl))) (js_nil))
        (js_cons (js_set 8 sc_right.nd rfl (Or.inr rfl) (j_ix (j_lst (j_cons (j_op o_add calm_add (j_int) (j_call tk H_drop (hr.mono (by decide)) hG T.m_drop T.k_drop T.b_drop (j_cons (j_v 0) (j_cons (j_int) (j_nil))) (len_cons (len_cons (len_nil))))) (j_cons (j_op o_add calm_add (j_int) (j_call tk H_drop (hr.mono (by decide)) hG T.m_drop T.k_drop T.b_drop (j_cons (j_v 0) (j_cons (j_int) (j_nil))) (len_cons (len_cons (len_nil))))) (j_nil)))) (j_callTy c_int calm_int T.n_int bt_int (j_cons (j_cmp (o_eq hr.units) calm_eq (j_call tk H_drop (hr.mono (by decide)) hG T.m_drop T.k_drop T.b_drop (j_cons (j_v 0) (j_cons (j_int) (j_nil))) (len_cons (len_cons (len_nil)))) (j_int) (nomark _)) (j_nil)))))
        (js_cons (js_set 9 sc_right.nd rfl (Or.inr rfl) (j_op o_add calm_add (j_int) (j_call tk H_drop (hr.mono (by decide)) hG T.m_drop T.k_drop T.b_drop (j_cons (j_v 0) (j_cons (j_int) (j_nil))) (len_cons (len_cons (len_nil))))))
        (js_cons (js_lset 10 [("_law_cask", 11)] rfl sc_right.nd rfl rfl rfl (j_range1 T.n_range (j_v 8)) (blk_ok rfl rfl) (fun _ _ _ _ _ => jg_name 11 sc_right.nd rfl (Or.inl rfl)) (fun _ _ _ _ _ => jc_nil) (fun _ _ _ _ _ => j_call takes0 H_column (hr.mono (by decide)) hG T.m_column T.k_column T.b_column (j_cons (j_v 0) (j_cons (j_v 8) (j_cons (j_v 9) (j_nil)))) (len_cons (len_cons (len_cons (len_nil))))) (by decide))
        (js_cons (js_set 12 sc_right.nd rfl (Or.inl rfl) (j_call tk H_table_of (hr.mono (by decide)) hG T.m_table_of T.k_table_of T.b_table_of (j_cons (j_v 10) (j_cons (j_op o_mul calm_mul (j_lst (j_cons (j_v 9) (j_nil))) (j_v 8)) (j_nil))) (len_cons (len_cons (len_nil)))))
        (js_cons (js_set 13 sc_right.nd rfl (Or.inl rfl) (j_call tk H_drop (hr.mono (by decide)) hG T.m_drop T.k_drop T.b_drop (j_cons (j_v 0) (j_cons (j_ix (j_lst (j_cons (j_int) (j_cons (j_int) (j_cons (j_int) (j_cons (j_op o_sub calm_int2 (j_int) (j_op o_mul calm_mul (j_int) (j_callTy c_int calm_int T.n_int bt_int (j_cons (j_cmp o_gt calm_int2 (j_v 8) (j_int) (nomark _)) (j_nil))))) (j_nil)))))) (j_call tk H_drop (hr.mono (by decide)) hG T.m_drop T.k_drop T.b_drop (j_cons (j_v 0) (j_cons (j_int) (j_nil))) (len_cons (len_cons (len_nil))))) (j_nil))) (len_cons (len_cons (len_nil)))))
        (js_cons (js_if (j_not (j_t (j_call tk H_same (hr.mono (by decide)) hG T.m_same T.k_same T.b_same (j_cons (j_call tk H_power (hr.mono (by decide)) hG T.m_power T.k_power T.b_power (j_cons (j_v 12) (j_cons (j_v 13) (j_nil))) (len_cons (len_cons (len_nil)))) (j_cons (j_call tk H_l_powered (hr.mono (by decide)) hG T.m_l_powered T.k_l_powered T.b_l_powered (j_cons (j_v 10) (j_cons (j_v 9) (j_cons (j_v 13) (j_nil)))) (len_cons (len_cons (len_cons (len_nil))))) (j_nil))) (len_cons (len_cons (len_nil)))))) (js_one (js_ret (j_bl))) (js_nil))
        (js_cons (js_if (j_pw (j_or (j_not (j_t (j_call tk H_same (hr.mono (by decide)) hG T.m_same T.k_same T.b_same (j_cons (j_call tk H_power (hr.mono (by decide)) hG T.m_power T.k_power T.b_power (j_cons (j_v 3) (j_cons (j_int) (j_nil))) (len_cons (len_cons (len_nil)))) (j_cons (j_v 3) (j_nil))) (len_cons (len_cons (len_nil)))))) (j_or1 (j_not (j_t (j_call tk H_same (hr.mono (by decide)) hG T.m_same T.k_same T.b_same (j_cons (j_call tk H_behind (hr.mono (by decide)) hG T.m_behind T.k_behind T.b_behind (j_cons (j_v 12) (j_cons (j_call tk H_still (hr.mono (by decide)) hG T.m_still T.k_still T.b_still (j_cons (j_v 8) (j_nil)) (len_cons (len_nil))) (j_nil))) (len_cons (len_cons (len_nil)))) (j_cons (j_v 12) (j_nil))) (len_cons (len_cons (len_nil))))))))) (js_one (js_ret (j_bl))) (js_nil))
        (js_one (js_ret (j_call tk H_refusals (hr.mono (by decide)) hG T.m_refusals T.k_refusals T.b_refusals (j_cons (j_v 0) (j_cons (j_v 2) (j_cons (j_v 3) (j_cons (j_v 12) (j_nil))))) (len_cons (len_cons (len_cons (len_cons (len_nil)))))))))))))))))))))))
theorem sc_jug : FnScope n_jug ["_law_cell", "_law_k"] (defScope s_jug) := ⟨rfl, rfl, rfl, by decide +kernel, rfl, by decide +kernel, by decide +kernel⟩
theorem ok_jug (T : Txt K mg) : FnG P w K mg base 3 T.a_jug T.d_jug ["_law_cell", "_law_k"] (spF K mg 2 f_jug) := fn_ok T.F_jug sc_jug fun cdv A outer s H E hr hG tk =>
    js_one (js_ret (j_lst (j_cons (j_callB (c_max2 rfl) calm_max2 T.n_max bt_max (j_cons (j_int) (j_cons (j_op o_sub calm_int2 (j_v 0) (j_op o_pow calm_int2 (j_int) (j_int))) (j_nil)))) (j_cons (j_op o_mod calm_int2 (j_callTy c_int calm_int T.n_int bt_int (j_cons (j_op o_add calm_add (j_op o_mul calm_mul (j_v 0) (j_int)) (j_op o_mul calm_mul (j_op o_add calm_add (j_v 1) (j_int)) (j_int))) (j_nil))) (j_op o_add calm_add (j_op o_pow calm_int2 (j_int) (j_int)) (j_int))) (j_cons (j_int) (j_nil))))))
theorem sc_law : FnScope n_law ["_law_script"] (defScope s_law) := ⟨rfl, rfl, rfl, by decide +kernel, rfl, by decide +kernel, by decide +kernel⟩
theorem ok_law (T : Txt K mg) (H_jug : FnG P w K mg base 3 T.a_jug T.d_jug ["_law_cell", "_law_k"] (spF K mg 2 f_jug)) (H_right : FnG P w K mg base 16 T.a_right T.d_right ["_law_jug_here"] (spF K mg 1 f_right)) : FnG P w K mg base 17 T.a_law T.d_law ["_law_script"] (spF K mg 1 f_law) := fn_ok T.F_law sc_law fun cdv A outer s H E hr hG tk =>
    js_cons (js_set 1 sc_law.nd rfl (Or.inl rfl) (j_op o_add calm_add (j_slice (j_v 0) (.none) (.some (j_int))) (j_op o_mul calm_mul (j_lst (j_cons (j_int) (j_nil))) (j_callTy c_int calm_int T.n_int bt_int (j_cons (j_cmp (o_eq hr.units) calm_eq (j_v 0) (j_lst (j_nil)) (nomark _)) (j_nil))))))
        (js_cons (js_for (passes_of rfl) rfl (j_range1 T.n_range (j_callB c_len calm_len T.n_len bt_len (j_cons (j_v 1) (j_nil)))) (jg_name 2 sc_law.nd rfl (Or.inl rfl)) (js_one (js_if (j_not (j_t (j_call tk H_right (hr.mono (by decide)) hG T.m_right T.k_right T.b_right (j_cons (j_call tk H_jug (hr.mono (by decide)) hG T.m_jug T.k_jug T.b_jug (j_cons (j_ix (j_v 1) (j_v 2)) (j_cons (j_v 2) (j_nil))) (len_cons (len_cons (len_nil)))) (j_nil)) (len_cons (len_nil))))) (js_one (js_ret (j_bl))) (js_nil))))
        (js_one (js_ret (j_bl))))
theorem law_runs (T : Txt K mg) : FnG P w K mg base 17 T.a_law T.d_law ["_law_script"] (spF K mg 1 f_law) := by
  have H_init := ok_initE (P := P) (w := w) (base := base) T
  have H_drop : FnG P w K mg base 3 T.a_drop T.d_drop ["_law_jug_here", "_law_many"] (spF K mg 2 f_drop) := ok_drop (P := P) (w := w) (base := base) T
  have H_column : FnG P w K mg base 4 T.a_column T.d_column ["_law_jug_here", "_law_casks", "_law_below"] (spF K mg 3 f_column) := ok_column (P := P) (w := w) (base := base) T H_drop
  have H_draw : FnG P w K mg base 5 T.a_draw T.d_draw ["_law_jug_here", "_law_casks"] (spF K mg 2 f_draw) := ok_draw (P := P) (w := w) (base := base) T H_drop H_column
  have H_low : FnG P w K mg base 3 T.a_low T.d_low ["_law_above", "_law_below"] (spF K mg 2 f_low) := ok_low (P := P) (w := w) (base := base) T
  have H_table_of : FnG P w K mg base 4 T.a_table_of T.d_table_of ["_law_columns", "_law_belows"] (spF K mg 2 f_table_of) := ok_table_of (P := P) (w := w) (base := base) T H_low
  have H_entry_put : FnG P w K mg base 3 T.a_entry_put T.d_entry_put ["_law_table", "_law_i", "_law_j", "_law_entry_here"] (spF K mg 4 f_entry_put) := ok_entry_put (P := P) (w := w) (base := base) T
  have H_spoilt : FnG P w K mg base 5 T.a_spoilt T.d_spoilt ["_law_jug_here", "_law_columns", "_law_belows", "_law_table"] (spF K mg 4 f_spoilt) := ok_spoilt (P := P) (w := w) (base := base) T H_drop H_low H_entry_put H_table_of
  have H_is_integer : FnG P w K mg base 3 T.a_is_integer T.d_is_integer ["value"] (spF K mg 1 f_is_integer) := ok_is_integer (P := P) (w := w) (base := base) T
  have H_is_fraction : FnG P w K mg base 4 T.a_is_fraction T.d_is_fraction ["value"] (spF K mg 1 f_is_fraction) := ok_is_fraction (P := P) (w := w) (base := base) T H_is_integer
  have H_is_from_zero : FnG P w K mg base 5 T.a_is_from_zero T.d_is_from_zero ["value"] (spF K mg 1 f_is_from_zero) := ok_is_from_zero (P := P) (w := w) (base := base) T H_is_fraction
  have H_is_share : FnG P w K mg base 6 T.a_is_share T.d_is_share ["value"] (spF K mg 1 f_is_share) := ok_is_share (P := P) (w := w) (base := base) T H_is_from_zero
  have H_is_table_row : FnG P w K mg base 6 T.a_is_table_row T.d_is_table_row ["value", "casks"] (spF K mg 2 f_is_table_row) := ok_is_table_row (P := P) (w := w) (base := base) T H_is_from_zero
  have H_reduced : FnG P w K mg base 3 T.a_reduced T.d_reduced ["above", "below"] (spF K mg 2 f_reduced) := ok_reduced (P := P) (w := w) (base := base) T
  have H_added : FnG P w K mg base 4 T.a_added T.d_added ["one", "other"] (spF K mg 2 f_added) := ok_added (P := P) (w := w) (base := base) T H_reduced
  have H_total : FnG P w K mg base 5 T.a_total T.d_total ["fractions"] (spF K mg 1 f_total) := ok_total (P := P) (w := w) (base := base) T H_added
  have H_column_sums : FnG P w K mg base 6 T.a_column_sums T.d_column_sums ["table"] (spF K mg 1 f_column_sums) := ok_column_sums (P := P) (w := w) (base := base) T H_total
  have H_is_table : FnG P w K mg base 7 T.a_is_table T.d_is_table ["value"] (spF K mg 1 f_is_table) := ok_is_table (P := P) (w := w) (base := base) T H_is_table_row H_column_sums H_is_share
  have H_built_anew : FnG P w K mg base 10 T.a_built_anew T.d_built_anew ["value"] (spF K mg 1 (f_built_anew 8)) := ok_built_anew (P := P) (w := w) (base := base) T 8 (Nat.le_refl _)
  have H_check_table : FnG P w K mg base 11 T.a_check_table T.d_check_table ["value"] (spF K mg 1 f_check_table) := ok_check_table (P := P) (w := w) (base := base) T H_init H_is_table H_built_anew
  have H_rows_of : FnG P w K mg base 4 T.a_rows_of T.d_rows_of ["grid"] (spF K mg 1 f_rows_of) := ok_rows_of (P := P) (w := w) (base := base) T H_reduced
  have H_product_of : FnG P w K mg base 3 T.a_product_of T.d_product_of ["one", "other"] (spF K mg 2 f_product_of) := ok_product_of (P := P) (w := w) (base := base) T
  have H_common : FnG P w K mg base 3 T.a_common T.d_common ["fractions"] (spF K mg 1 f_common) := ok_common (P := P) (w := w) (base := base) T
  have H_grid_of : FnG P w K mg base 4 T.a_grid_of T.d_grid_of ["rows"] (spF K mg 1 f_grid_of) := ok_grid_of (P := P) (w := w) (base := base) T H_common
  have H_behind : FnG P w K mg base 12 T.a_behind T.d_behind ["one", "other"] (spF K mg 2 f_behind) := ok_behind (P := P) (w := w) (base := base) T H_init H_check_table H_grid_of H_product_of H_rows_of
  have H_check_rounds : FnG P w K mg base 3 T.a_check_rounds T.d_check_rounds ["rounds"] (spF K mg 1 f_check_rounds) := ok_check_rounds (P := P) (w := w) (base := base) T H_init
  have H_still_grid : FnG P w K mg base 3 T.a_still_grid T.d_still_grid ["casks"] (spF K mg 1 f_still_grid) := ok_still_grid (P := P) (w := w) (base := base) T
  have H_power_of : FnG P w K mg base 4 T.a_power_of T.d_power_of ["grid", "rounds"] (spF K mg 2 f_power_of) := ok_power_of (P := P) (w := w) (base := base) T H_still_grid H_product_of
  have H_reduced_by : FnG P w K mg base 3 T.a_reduced_by T.d_reduced_by ["number", "below", "base"] (spF K mg 3 f_reduced_by) := ok_reduced_by (P := P) (w := w) (base := base) T
  have H_powered : FnG P w K mg base 5 T.a_powered T.d_powered ["grid", "rounds"] (spF K mg 2 f_powered) := ok_powered (P := P) (w := w) (base := base) T H_power_of H_reduced_by
  have H_power : FnG P w K mg base 12 T.a_power T.d_power ["table", "rounds"] (spF K mg 2 f_power) := ok_power (P := P) (w := w) (base := base) T H_check_table H_check_rounds H_grid_of H_powered
  have H_keeps_all : FnG P w K mg base 12 T.a_keeps_all T.d_keeps_all ["table"] (spF K mg 1 f_keeps_all) := ok_keeps_all (P := P) (w := w) (base := base) T H_check_table H_column_sums
  have H_check_casks : FnG P w K mg base 3 T.a_check_casks T.d_check_casks ["casks"] (spF K mg 1 f_check_casks) := ok_check_casks (P := P) (w := w) (base := base) T H_init
  have H_still : FnG P w K mg base 5 T.a_still T.d_still ["casks"] (spF K mg 1 f_still) := ok_still (P := P) (w := w) (base := base) T H_check_casks H_still_grid H_rows_of
  have H_caught : FnG P w K mg base 13 T.a_caught T.d_caught ["_law_way", "_law_one", "_law_other"] (spF K mg 3 f_caught) := ok_caught (P := P) (w := w) (base := base) T H_behind H_power H_keeps_all H_still
  have H_same : FnG P w K mg base 10 T.a_same T.d_same ["_law_found", "_law_due"] (spF K mg 2 (f_same 8)) := ok_same (P := P) (w := w) (base := base) T 8 (Nat.le_refl _)
  have H_no_table : FnG P w K mg base 14 T.a_no_table T.d_no_table ["_law_way", "_law_one", "_law_other", "_law_bad"] (spF K mg 4 f_no_table) := ok_no_table (P := P) (w := w) (base := base) T H_caught
  have H_refusals : FnG P w K mg base 15 T.a_refusals T.d_refusals ["_law_jug_here", "_law_first", "_law_table", "_law_further"] (spF K mg 4 f_refusals) := ok_refusals (P := P) (w := w) (base := base) T H_spoilt H_is_table H_no_table H_drop H_caught H_same
  have H_add : FnG P w K mg base 4 T.a_add T.d_add ["_law_one", "_law_other"] (spF K mg 2 f_add) := ok_add (P := P) (w := w) (base := base) T H_low
  have H_entry : FnG P w K mg base 5 T.a_entry T.d_entry ["_law_row", "_law_column_here"] (spF K mg 2 f_entry) := ok_entry (P := P) (w := w) (base := base) T H_add
  have H_l_behind : FnG P w K mg base 6 T.a_l_behind T.d_l_behind ["_law_one", "_law_other"] (spF K mg 2 f_l_behind) := ok_l_behind (P := P) (w := w) (base := base) T H_entry
  have H_l_still : FnG P w K mg base 14 T.a_l_still T.d_l_still ["_law_casks"] (spF K mg 1 f_l_still) := ok_l_still (P := P) (w := w) (base := base) T H_still H_table_of H_same H_caught
  have H_l_powered : FnG P w K mg base 5 T.a_l_powered T.d_l_powered ["_law_columns", "_law_below", "_law_rounds"] (spF K mg 3 f_l_powered) := ok_l_powered (P := P) (w := w) (base := base) T H_table_of
  have H_right : FnG P w K mg base 16 T.a_right T.d_right ["_law_jug_here"] (spF K mg 1 f_right) := ok_right (P := P) (w := w) (base := base) T H_drop H_draw H_table_of H_is_table H_behind H_l_behind H_same H_keeps_all H_l_still H_column H_power H_l_powered H_still H_refusals
  have H_jug : FnG P w K mg base 3 T.a_jug T.d_jug ["_law_cell", "_law_k"] (spF K mg 2 f_jug) := ok_jug (P := P) (w := w) (base := base) T
  exact ok_law T H_jug H_right
theorem all_mk {fa : Addr} (T : Txt K mg) (hfa : mg "law" = some (.ref fa)) : ∃ fd : FuncData, (∀ (s : Shared) (u : Value), BindsTo s fd ⟨[u], []⟩ [("_law_script", u)]) ∧ ∀ base : Heap, K.In base → base.Ns mainGlobals mg → FnG P w K mg base 17 fa fd ["_law_script"] (spF K mg 1 f_law) := by
  have e := T.m_law.symm.trans hfa
  have e2 : T.a_law = fa := by
    cases e
    rfl
  subst e2
  refine ⟨T.d_law, fun s u => ?_, fun base _ _ => law_runs T⟩
  obtain ⟨_, _, _, _, _, _, _, _, _, q, _⟩ := T.F_law.ex
  rw [q]
  exact .of_eq rfl
def mkTxt {h : Heap} (X : K.In h) (G : h.Ns mainGlobals mg)
    {a_drop : Addr} {d_drop : FuncData} (m_drop : PySem.W.nsIn K mainGlobals "_law_drop" = some (some (.ref a_drop))) (F_drop : Fun K "_law_drop" "_law_drop" s_drop a_drop d_drop)
    {a_column : Addr} {d_column : FuncData} (m_column : PySem.W.nsIn K mainGlobals "_law_column" = some (some (.ref a_column))) (F_column : Fun K "_law_column" "_law_column" s_column a_column d_column)
    {a_draw : Addr} {d_draw : FuncData} (m_draw : PySem.W.nsIn K mainGlobals "_law_draw" = some (some (.ref a_draw))) (F_draw : Fun K "_law_draw" "_law_draw" s_draw a_draw d_draw)
    {a_low : Addr} {d_low : FuncData} (m_low : PySem.W.nsIn K mainGlobals "_law_low" = some (some (.ref a_low))) (F_low : Fun K "_law_low" "_law_low" s_low a_low d_low)
    {a_table_of : Addr} {d_table_of : FuncData} (m_table_of : PySem.W.nsIn K mainGlobals "_law_table_of" = some (some (.ref a_table_of))) (F_table_of : Fun K "_law_table_of" "_law_table_of" s_table_of a_table_of d_table_of)
    {a_entry_put : Addr} {d_entry_put : FuncData} (m_entry_put : PySem.W.nsIn K mainGlobals "_law_entry_put" = some (some (.ref a_entry_put))) (F_entry_put : Fun K "_law_entry_put" "_law_entry_put" s_entry_put a_entry_put d_entry_put)
    {a_spoilt : Addr} {d_spoilt : FuncData} (m_spoilt : PySem.W.nsIn K mainGlobals "_law_spoilt" = some (some (.ref a_spoilt))) (F_spoilt : Fun K "_law_spoilt" "_law_spoilt" s_spoilt a_spoilt d_spoilt)
    {a_is_integer : Addr} {d_is_integer : FuncData} (m_is_integer : PySem.W.nsIn K mainGlobals "is_integer" = some (some (.ref a_is_integer))) (F_is_integer : Fun K "is_integer" "is_integer" s_is_integer a_is_integer d_is_integer)
    {a_is_fraction : Addr} {d_is_fraction : FuncData} (m_is_fraction : PySem.W.nsIn K mainGlobals "is_fraction" = some (some (.ref a_is_fraction))) (F_is_fraction : Fun K "is_fraction" "is_fraction" s_is_fraction a_is_fraction d_is_fraction)
    {a_is_from_zero : Addr} {d_is_from_zero : FuncData} (m_is_from_zero : PySem.W.nsIn K mainGlobals "is_from_zero" = some (some (.ref a_is_from_zero))) (F_is_from_zero : Fun K "is_from_zero" "is_from_zero" s_is_from_zero a_is_from_zero d_is_from_zero)
    {a_is_share : Addr} {d_is_share : FuncData} (m_is_share : PySem.W.nsIn K mainGlobals "is_share" = some (some (.ref a_is_share))) (F_is_share : Fun K "is_share" "is_share" s_is_share a_is_share d_is_share)
    {a_is_table_row : Addr} {d_is_table_row : FuncData} (m_is_table_row : PySem.W.nsIn K mainGlobals "is_table_row" = some (some (.ref a_is_table_row))) (F_is_table_row : Fun K "is_table_row" "is_table_row" s_is_table_row a_is_table_row d_is_table_row)
    {a_reduced : Addr} {d_reduced : FuncData} (m_reduced : PySem.W.nsIn K mainGlobals "reduced" = some (some (.ref a_reduced))) (F_reduced : Fun K "reduced" "reduced" s_reduced a_reduced d_reduced)
    {a_added : Addr} {d_added : FuncData} (m_added : PySem.W.nsIn K mainGlobals "added" = some (some (.ref a_added))) (F_added : Fun K "added" "added" s_added a_added d_added)
    {a_total : Addr} {d_total : FuncData} (m_total : PySem.W.nsIn K mainGlobals "total" = some (some (.ref a_total))) (F_total : Fun K "total" "total" s_total a_total d_total)
    {a_column_sums : Addr} {d_column_sums : FuncData} (m_column_sums : PySem.W.nsIn K mainGlobals "column_sums" = some (some (.ref a_column_sums))) (F_column_sums : Fun K "column_sums" "column_sums" s_column_sums a_column_sums d_column_sums)
    {a_is_table : Addr} {d_is_table : FuncData} (m_is_table : PySem.W.nsIn K mainGlobals "is_table" = some (some (.ref a_is_table))) (F_is_table : Fun K "is_table" "is_table" s_is_table a_is_table d_is_table)
    {a_built_anew : Addr} {d_built_anew : FuncData} (m_built_anew : PySem.W.nsIn K mainGlobals "built_anew" = some (some (.ref a_built_anew))) (F_built_anew : Fun K "built_anew" "built_anew" s_built_anew a_built_anew d_built_anew)
    {a_check_table : Addr} {d_check_table : FuncData} (m_check_table : PySem.W.nsIn K mainGlobals "check_table" = some (some (.ref a_check_table))) (F_check_table : Fun K "check_table" "check_table" s_check_table a_check_table d_check_table)
    {a_rows_of : Addr} {d_rows_of : FuncData} (m_rows_of : PySem.W.nsIn K mainGlobals "rows_of" = some (some (.ref a_rows_of))) (F_rows_of : Fun K "rows_of" "rows_of" s_rows_of a_rows_of d_rows_of)
    {a_product_of : Addr} {d_product_of : FuncData} (m_product_of : PySem.W.nsIn K mainGlobals "product_of" = some (some (.ref a_product_of))) (F_product_of : Fun K "product_of" "product_of" s_product_of a_product_of d_product_of)
    {a_common : Addr} {d_common : FuncData} (m_common : PySem.W.nsIn K mainGlobals "common" = some (some (.ref a_common))) (F_common : Fun K "common" "common" s_common a_common d_common)
    {a_grid_of : Addr} {d_grid_of : FuncData} (m_grid_of : PySem.W.nsIn K mainGlobals "grid_of" = some (some (.ref a_grid_of))) (F_grid_of : Fun K "grid_of" "grid_of" s_grid_of a_grid_of d_grid_of)
    {a_behind : Addr} {d_behind : FuncData} (m_behind : PySem.W.nsIn K mainGlobals "behind" = some (some (.ref a_behind))) (F_behind : Fun K "behind" "behind" s_behind a_behind d_behind)
    {a_check_rounds : Addr} {d_check_rounds : FuncData} (m_check_rounds : PySem.W.nsIn K mainGlobals "check_rounds" = some (some (.ref a_check_rounds))) (F_check_rounds : Fun K "check_rounds" "check_rounds" s_check_rounds a_check_rounds d_check_rounds)
    {a_still_grid : Addr} {d_still_grid : FuncData} (m_still_grid : PySem.W.nsIn K mainGlobals "still_grid" = some (some (.ref a_still_grid))) (F_still_grid : Fun K "still_grid" "still_grid" s_still_grid a_still_grid d_still_grid)
    {a_power_of : Addr} {d_power_of : FuncData} (m_power_of : PySem.W.nsIn K mainGlobals "power_of" = some (some (.ref a_power_of))) (F_power_of : Fun K "power_of" "power_of" s_power_of a_power_of d_power_of)
    {a_reduced_by : Addr} {d_reduced_by : FuncData} (m_reduced_by : PySem.W.nsIn K mainGlobals "reduced_by" = some (some (.ref a_reduced_by))) (F_reduced_by : Fun K "reduced_by" "reduced_by" s_reduced_by a_reduced_by d_reduced_by)
    {a_powered : Addr} {d_powered : FuncData} (m_powered : PySem.W.nsIn K mainGlobals "powered" = some (some (.ref a_powered))) (F_powered : Fun K "powered" "powered" s_powered a_powered d_powered)
    {a_power : Addr} {d_power : FuncData} (m_power : PySem.W.nsIn K mainGlobals "power" = some (some (.ref a_power))) (F_power : Fun K "power" "power" s_power a_power d_power)
    {a_keeps_all : Addr} {d_keeps_all : FuncData} (m_keeps_all : PySem.W.nsIn K mainGlobals "keeps_all" = some (some (.ref a_keeps_all))) (F_keeps_all : Fun K "keeps_all" "keeps_all" s_keeps_all a_keeps_all d_keeps_all)
    {a_check_casks : Addr} {d_check_casks : FuncData} (m_check_casks : PySem.W.nsIn K mainGlobals "check_casks" = some (some (.ref a_check_casks))) (F_check_casks : Fun K "check_casks" "check_casks" s_check_casks a_check_casks d_check_casks)
    {a_still : Addr} {d_still : FuncData} (m_still : PySem.W.nsIn K mainGlobals "still" = some (some (.ref a_still))) (F_still : Fun K "still" "still" s_still a_still d_still)
    {a_caught : Addr} {d_caught : FuncData} (m_caught : PySem.W.nsIn K mainGlobals "_law_caught" = some (some (.ref a_caught))) (F_caught : Fun K "_law_caught" "_law_caught" s_caught a_caught d_caught)
    {a_same : Addr} {d_same : FuncData} (m_same : PySem.W.nsIn K mainGlobals "_law_same" = some (some (.ref a_same))) (F_same : Fun K "_law_same" "_law_same" s_same a_same d_same)
    {a_no_table : Addr} {d_no_table : FuncData} (m_no_table : PySem.W.nsIn K mainGlobals "_law_no_table" = some (some (.ref a_no_table))) (F_no_table : Fun K "_law_no_table" "_law_no_table" s_no_table a_no_table d_no_table)
    {a_refusals : Addr} {d_refusals : FuncData} (m_refusals : PySem.W.nsIn K mainGlobals "_law_refusals" = some (some (.ref a_refusals))) (F_refusals : Fun K "_law_refusals" "_law_refusals" s_refusals a_refusals d_refusals)
    {a_add : Addr} {d_add : FuncData} (m_add : PySem.W.nsIn K mainGlobals "_law_add" = some (some (.ref a_add))) (F_add : Fun K "_law_add" "_law_add" s_add a_add d_add)
    {a_entry : Addr} {d_entry : FuncData} (m_entry : PySem.W.nsIn K mainGlobals "_law_entry" = some (some (.ref a_entry))) (F_entry : Fun K "_law_entry" "_law_entry" s_entry a_entry d_entry)
    {a_l_behind : Addr} {d_l_behind : FuncData} (m_l_behind : PySem.W.nsIn K mainGlobals "_law_behind" = some (some (.ref a_l_behind))) (F_l_behind : Fun K "_law_behind" "_law_behind" s_l_behind a_l_behind d_l_behind)
    {a_l_still : Addr} {d_l_still : FuncData} (m_l_still : PySem.W.nsIn K mainGlobals "_law_still" = some (some (.ref a_l_still))) (F_l_still : Fun K "_law_still" "_law_still" s_l_still a_l_still d_l_still)
    {a_l_powered : Addr} {d_l_powered : FuncData} (m_l_powered : PySem.W.nsIn K mainGlobals "_law_powered" = some (some (.ref a_l_powered))) (F_l_powered : Fun K "_law_powered" "_law_powered" s_l_powered a_l_powered d_l_powered)
    {a_right : Addr} {d_right : FuncData} (m_right : PySem.W.nsIn K mainGlobals "_law_right" = some (some (.ref a_right))) (F_right : Fun K "_law_right" "_law_right" s_right a_right d_right)
    {a_jug : Addr} {d_jug : FuncData} (m_jug : PySem.W.nsIn K mainGlobals "_law_jug" = some (some (.ref a_jug))) (F_jug : Fun K "_law_jug" "_law_jug" s_jug a_jug d_jug)
    {a_law : Addr} {d_law : FuncData} (m_law : PySem.W.nsIn K mainGlobals "law" = some (some (.ref a_law))) (F_law : Fun K "law" "law" s_law a_law d_law)
    {a_CaskError : Addr} (c_CaskError : PySem.W.nsIn K mainGlobals "CaskError" = some (some (.ref a_CaskError)))
    {a_InvalidTable : Addr} (c_InvalidTable : PySem.W.nsIn K mainGlobals "InvalidTable" = some (some (.ref a_InvalidTable)))
    {a_InvalidNumber : Addr} (c_InvalidNumber : PySem.W.nsIn K mainGlobals "InvalidNumber" = some (some (.ref a_InvalidNumber)))
    {a_Unlike : Addr} (c_Unlike : PySem.W.nsIn K mainGlobals "Unlike" = some (some (.ref a_Unlike)))
    {a_init : Addr} {d_init : FuncData}
    (o_Unlike : OexC K a_Unlike) (j_Unlike : PySem.W.findIn K (.ref a_Unlike) "__init__" = some (some (.ref a_init))) (y_Unlike : ExcC K a_Unlike) (v_Unlike : PySem.W.findIn K (.ref a_Unlike) "value" = some none)
    (o_InvalidTable : OexC K a_InvalidTable) (j_InvalidTable : PySem.W.findIn K (.ref a_InvalidTable) "__init__" = some (some (.ref a_init))) (y_InvalidTable : ExcC K a_InvalidTable) (v_InvalidTable : PySem.W.findIn K (.ref a_InvalidTable) "value" = some none)
    (o_InvalidNumber : OexC K a_InvalidNumber) (j_InvalidNumber : PySem.W.findIn K (.ref a_InvalidNumber) "__init__" = some (some (.ref a_init))) (y_InvalidNumber : ExcC K a_InvalidNumber) (v_InvalidNumber : PySem.W.findIn K (.ref a_InvalidNumber) "value" = some none)
    (F_init : Fun K "__init__" "CaskError.__init__" s_init a_init d_init) (t_init : PySem.W.typeIn K (.ref a_init) = some (.type "function")) (n_ValueError : PySem.W.nsIn K mainGlobals "ValueError" = some none) (v_ValueError : PySem.W.findCls K (.type "ValueError") (.type "type") "__init__" = some (.val (.builtin "ValueError.__init__")))
    (i_Unlike_InvalidNumber : PySem.W.kitOne K (.ref a_Unlike) (.ref a_InvalidNumber) = some false)
    (i_InvalidTable_InvalidNumber : PySem.W.kitOne K (.ref a_InvalidTable) (.ref a_InvalidNumber) = some false)
    (i_InvalidNumber_InvalidNumber : PySem.W.kitOne K (.ref a_InvalidNumber) (.ref a_InvalidNumber) = some true)
    (i_Unlike_InvalidTable : PySem.W.kitOne K (.ref a_Unlike) (.ref a_InvalidTable) = some false)
    (i_InvalidTable_InvalidTable : PySem.W.kitOne K (.ref a_InvalidTable) (.ref a_InvalidTable) = some true)
    (i_InvalidNumber_InvalidTable : PySem.W.kitOne K (.ref a_InvalidNumber) (.ref a_InvalidTable) = some false)
    (i_Unlike_Unlike : PySem.W.kitOne K (.ref a_Unlike) (.ref a_Unlike) = some true)
    (i_InvalidTable_Unlike : PySem.W.kitOne K (.ref a_InvalidTable) (.ref a_Unlike) = some false)
    (i_InvalidNumber_Unlike : PySem.W.kitOne K (.ref a_InvalidNumber) (.ref a_Unlike) = some false)
    (x_Unlike_CaskError : PySem.W.exmOne K (.ref a_Unlike) (.ref a_CaskError) = some true)
    (x_InvalidTable_CaskError : PySem.W.exmOne K (.ref a_InvalidTable) (.ref a_CaskError) = some true)
    (x_InvalidNumber_CaskError : PySem.W.exmOne K (.ref a_InvalidNumber) (.ref a_CaskError) = some true)
    {t_MOST_CASKS : Tok} (c_MOST_CASKS : PySem.W.nsIn K mainGlobals "MOST_CASKS" = some (some (.int 8 t_MOST_CASKS)))
    {a_ONE : Addr} (c_ONE : PySem.W.nsIn K mainGlobals "ONE" = some (some (.ref a_ONE))) {o_ONE : Option Addr} {t_ONE : Array Value} {q_ONE : Nat} {w_ONE : Array (Option Value)} (l_ONE : K.lookup a_ONE = some ⟨.type "tuple", o_ONE, .seq t_ONE q_ONE, w_ONE⟩) (r_ONE : Vals [V.int 1, V.int 1] t_ONE.toList) (y_ONE : t_ONE.size ≤ sizeLine)
    {a_ZERO : Addr} (c_ZERO : PySem.W.nsIn K mainGlobals "ZERO" = some (some (.ref a_ZERO))) {o_ZERO : Option Addr} {t_ZERO : Array Value} {q_ZERO : Nat} {w_ZERO : Array (Option Value)} (l_ZERO : K.lookup a_ZERO = some ⟨.type "tuple", o_ZERO, .seq t_ZERO q_ZERO, w_ZERO⟩) (r_ZERO : Vals [V.int 0, V.int 1] t_ZERO.toList) (y_ZERO : t_ZERO.size ≤ sizeLine)
    (n_gcd : PySem.W.nsIn K mainGlobals "gcd" = some (some (.builtin "math.gcd")))
    (n_lcm : PySem.W.nsIn K mainGlobals "lcm" = some (some (.builtin "math.lcm")))
    (n_abs : PySem.W.nsIn K mainGlobals "abs" = some none)
    (n_all : PySem.W.nsIn K mainGlobals "all" = some none)
    (n_bool : PySem.W.nsIn K mainGlobals "bool" = some none)
    (n_int : PySem.W.nsIn K mainGlobals "int" = some none)
    (n_isinstance : PySem.W.nsIn K mainGlobals "isinstance" = some none)
    (n_len : PySem.W.nsIn K mainGlobals "len" = some none)
    (n_list : PySem.W.nsIn K mainGlobals "list" = some none)
    (n_max : PySem.W.nsIn K mainGlobals "max" = some none)
    (n_range : PySem.W.nsIn K mainGlobals "range" = some none)
    (n_repr : PySem.W.nsIn K mainGlobals "repr" = some none)
    (n_sum : PySem.W.nsIn K mainGlobals "sum" = some none)
    (n_tuple : PySem.W.nsIn K mainGlobals "tuple" = some none)
    (n_zip : PySem.W.nsIn K mainGlobals "zip" = some none) : Txt K mg :=
  { a_drop := a_drop, d_drop := d_drop, m_drop := PySem.W.mg_of X G m_drop, F_drop := F_drop, k_drop := F_drop.2, b_drop := F_drop.binds fun _ _ _ _ _ _ us hl => match us, hl with | [_, _], _ => rfl,
    a_column := a_column, d_column := d_column, m_column := PySem.W.mg_of X G m_column, F_column := F_column, k_column := F_column.2, b_column := F_column.binds fun _ _ _ _ _ _ us hl => match us, hl with | [_, _, _], _ => rfl,
    a_draw := a_draw, d_draw := d_draw, m_draw := PySem.W.mg_of X G m_draw, F_draw := F_draw, k_draw := F_draw.2, b_draw := F_draw.binds fun _ _ _ _ _ _ us hl => match us, hl with | [_, _], _ => rfl,
    a_low := a_low, d_low := d_low, m_low := PySem.W.mg_of X G m_low, F_low := F_low, k_low := F_low.2, b_low := F_low.binds fun _ _ _ _ _ _ us hl => match us, hl with | [_, _], _ => rfl,
    a_table_of := a_table_of, d_table_of := d_table_of, m_table_of := PySem.W.mg_of X G m_table_of, F_table_of := F_table_of, k_table_of := F_table_of.2, b_table_of := F_table_of.binds fun _ _ _ _ _ _ us hl => match us, hl with | [_, _], _ => rfl,
    a_entry_put := a_entry_put, d_entry_put := d_entry_put, m_entry_put := PySem.W.mg_of X G m_entry_put, F_entry_put := F_entry_put, k_entry_put := F_entry_put.2, b_entry_put := F_entry_put.binds fun _ _ _ _ _ _ us hl => match us, hl with | [_, _, _, _], _ => rfl,
    a_spoilt := a_spoilt, d_spoilt := d_spoilt, m_spoilt := PySem.W.mg_of X G m_spoilt, F_spoilt := F_spoilt, k_spoilt := F_spoilt.2, b_spoilt := F_spoilt.binds fun _ _ _ _ _ _ us hl => match us, hl with | [_, _, _, _], _ => rfl,
    a_is_integer := a_is_integer, d_is_integer := d_is_integer, m_is_integer := PySem.W.mg_of X G m_is_integer, F_is_integer := F_is_integer, k_is_integer := F_is_integer.2, b_is_integer := F_is_integer.binds fun _ _ _ _ _ _ us hl => match us, hl with | [_], _ => rfl,
    a_is_fraction := a_is_fraction, d_is_fraction := d_is_fraction, m_is_fraction := PySem.W.mg_of X G m_is_fraction, F_is_fraction := F_is_fraction, k_is_fraction := F_is_fraction.2, b_is_fraction := F_is_fraction.binds fun _ _ _ _ _ _ us hl => match us, hl with | [_], _ => rfl,
    a_is_from_zero := a_is_from_zero, d_is_from_zero := d_is_from_zero, m_is_from_zero := PySem.W.mg_of X G m_is_from_zero, F_is_from_zero := F_is_from_zero, k_is_from_zero := F_is_from_zero.2, b_is_from_zero := F_is_from_zero.binds fun _ _ _ _ _ _ us hl => match us, hl with | [_], _ => rfl,
    a_is_share := a_is_share, d_is_share := d_is_share, m_is_share := PySem.W.mg_of X G m_is_share, F_is_share := F_is_share, k_is_share := F_is_share.2, b_is_share := F_is_share.binds fun _ _ _ _ _ _ us hl => match us, hl with | [_], _ => rfl,
    a_is_table_row := a_is_table_row, d_is_table_row := d_is_table_row, m_is_table_row := PySem.W.mg_of X G m_is_table_row, F_is_table_row := F_is_table_row, k_is_table_row := F_is_table_row.2, b_is_table_row := F_is_table_row.binds fun _ _ _ _ _ _ us hl => match us, hl with | [_, _], _ => rfl,
    a_reduced := a_reduced, d_reduced := d_reduced, m_reduced := PySem.W.mg_of X G m_reduced, F_reduced := F_reduced, k_reduced := F_reduced.2, b_reduced := F_reduced.binds fun _ _ _ _ _ _ us hl => match us, hl with | [_, _], _ => rfl,
    a_added := a_added, d_added := d_added, m_added := PySem.W.mg_of X G m_added, F_added := F_added, k_added := F_added.2, b_added := F_added.binds fun _ _ _ _ _ _ us hl => match us, hl with | [_, _], _ => rfl,
    a_total := a_total, d_total := d_total, m_total := PySem.W.mg_of X G m_total, F_total := F_total, k_total := F_total.2, b_total := F_total.binds fun _ _ _ _ _ _ us hl => match us, hl with | [_], _ => rfl,
    a_column_sums := a_column_sums, d_column_sums := d_column_sums, m_column_sums := PySem.W.mg_of X G m_column_sums, F_column_sums := F_column_sums, k_column_sums := F_column_sums.2, b_column_sums := F_column_sums.binds fun _ _ _ _ _ _ us hl => match us, hl with | [_], _ => rfl,
    a_is_table := a_is_table, d_is_table := d_is_table, m_is_table := PySem.W.mg_of X G m_is_table, F_is_table := F_is_table, k_is_table := F_is_table.2, b_is_table := F_is_table.binds fun _ _ _ _ _ _ us hl => match us, hl with | [_], _ => rfl,
    a_built_anew := a_built_anew, d_built_anew := d_built_anew, m_built_anew := PySem.W.mg_of X G m_built_anew, F_built_anew := F_built_anew, k_built_anew := F_built_anew.2, b_built_anew := F_built_anew.binds fun _ _ _ _ _ _ us hl => match us, hl with | [_], _ => rfl,
    a_check_table := a_check_table, d_check_table := d_check_table, m_check_table := PySem.W.mg_of X G m_check_table, F_check_table := F_check_table, k_check_table := F_check_table.2, b_check_table := F_check_table.binds fun _ _ _ _ _ _ us hl => match us, hl with | [_], _ => rfl,
    a_rows_of := a_rows_of, d_rows_of := d_rows_of, m_rows_of := PySem.W.mg_of X G m_rows_of, F_rows_of := F_rows_of, k_rows_of := F_rows_of.2, b_rows_of := F_rows_of.binds fun _ _ _ _ _ _ us hl => match us, hl with | [_], _ => rfl,
    a_product_of := a_product_of, d_product_of := d_product_of, m_product_of := PySem.W.mg_of X G m_product_of, F_product_of := F_product_of, k_product_of := F_product_of.2, b_product_of := F_product_of.binds fun _ _ _ _ _ _ us hl => match us, hl with | [_, _], _ => rfl,
    a_common := a_common, d_common := d_common, m_common := PySem.W.mg_of X G m_common, F_common := F_common, k_common := F_common.2, b_common := F_common.binds fun _ _ _ _ _ _ us hl => match us, hl with | [_], _ => rfl,
    a_grid_of := a_grid_of, d_grid_of := d_grid_of, m_grid_of := PySem.W.mg_of X G m_grid_of, F_grid_of := F_grid_of, k_grid_of := F_grid_of.2, b_grid_of := F_grid_of.binds fun _ _ _ _ _ _ us hl => match us, hl with | [_], _ => rfl,
    a_behind := a_behind, d_behind := d_behind, m_behind := PySem.W.mg_of X G m_behind, F_behind := F_behind, k_behind := F_behind.2, b_behind := F_behind.binds fun _ _ _ _ _ _ us hl => match us, hl with | [_, _], _ => rfl,
    a_check_rounds := a_check_rounds, d_check_rounds := d_check_rounds, m_check_rounds := PySem.W.mg_of X G m_check_rounds, F_check_rounds := F_check_rounds, k_check_rounds := F_check_rounds.2, b_check_rounds := F_check_rounds.binds fun _ _ _ _ _ _ us hl => match us, hl with | [_], _ => rfl,
    a_still_grid := a_still_grid, d_still_grid := d_still_grid, m_still_grid := PySem.W.mg_of X G m_still_grid, F_still_grid := F_still_grid, k_still_grid := F_still_grid.2, b_still_grid := F_still_grid.binds fun _ _ _ _ _ _ us hl => match us, hl with | [_], _ => rfl,
    a_power_of := a_power_of, d_power_of := d_power_of, m_power_of := PySem.W.mg_of X G m_power_of, F_power_of := F_power_of, k_power_of := F_power_of.2, b_power_of := F_power_of.binds fun _ _ _ _ _ _ us hl => match us, hl with | [_, _], _ => rfl,
    a_reduced_by := a_reduced_by, d_reduced_by := d_reduced_by, m_reduced_by := PySem.W.mg_of X G m_reduced_by, F_reduced_by := F_reduced_by, k_reduced_by := F_reduced_by.2, b_reduced_by := F_reduced_by.binds fun _ _ _ _ _ _ us hl => match us, hl with | [_, _, _], _ => rfl,
    a_powered := a_powered, d_powered := d_powered, m_powered := PySem.W.mg_of X G m_powered, F_powered := F_powered, k_powered := F_powered.2, b_powered := F_powered.binds fun _ _ _ _ _ _ us hl => match us, hl with | [_, _], _ => rfl,
    a_power := a_power, d_power := d_power, m_power := PySem.W.mg_of X G m_power, F_power := F_power, k_power := F_power.2, b_power := F_power.binds fun _ _ _ _ _ _ us hl => match us, hl with | [_, _], _ => rfl,
    a_keeps_all := a_keeps_all, d_keeps_all := d_keeps_all, m_keeps_all := PySem.W.mg_of X G m_keeps_all, F_keeps_all := F_keeps_all, k_keeps_all := F_keeps_all.2, b_keeps_all := F_keeps_all.binds fun _ _ _ _ _ _ us hl => match us, hl with | [_], _ => rfl,
    a_check_casks := a_check_casks, d_check_casks := d_check_casks, m_check_casks := PySem.W.mg_of X G m_check_casks, F_check_casks := F_check_casks, k_check_casks := F_check_casks.2, b_check_casks := F_check_casks.binds fun _ _ _ _ _ _ us hl => match us, hl with | [_], _ => rfl,
    a_still := a_still, d_still := d_still, m_still := PySem.W.mg_of X G m_still, F_still := F_still, k_still := F_still.2, b_still := F_still.binds fun _ _ _ _ _ _ us hl => match us, hl with | [_], _ => rfl,
    a_caught := a_caught, d_caught := d_caught, m_caught := PySem.W.mg_of X G m_caught, F_caught := F_caught, k_caught := F_caught.2, b_caught := F_caught.binds fun _ _ _ _ _ _ us hl => match us, hl with | [_, _, _], _ => rfl,
    a_same := a_same, d_same := d_same, m_same := PySem.W.mg_of X G m_same, F_same := F_same, k_same := F_same.2, b_same := F_same.binds fun _ _ _ _ _ _ us hl => match us, hl with | [_, _], _ => rfl,
    a_no_table := a_no_table, d_no_table := d_no_table, m_no_table := PySem.W.mg_of X G m_no_table, F_no_table := F_no_table, k_no_table := F_no_table.2, b_no_table := F_no_table.binds fun _ _ _ _ _ _ us hl => match us, hl with | [_, _, _, _], _ => rfl,
    a_refusals := a_refusals, d_refusals := d_refusals, m_refusals := PySem.W.mg_of X G m_refusals, F_refusals := F_refusals, k_refusals := F_refusals.2, b_refusals := F_refusals.binds fun _ _ _ _ _ _ us hl => match us, hl with | [_, _, _, _], _ => rfl,
    a_add := a_add, d_add := d_add, m_add := PySem.W.mg_of X G m_add, F_add := F_add, k_add := F_add.2, b_add := F_add.binds fun _ _ _ _ _ _ us hl => match us, hl with | [_, _], _ => rfl,
    a_entry := a_entry, d_entry := d_entry, m_entry := PySem.W.mg_of X G m_entry, F_entry := F_entry, k_entry := F_entry.2, b_entry := F_entry.binds fun _ _ _ _ _ _ us hl => match us, hl with | [_, _], _ => rfl,
    a_l_behind := a_l_behind, d_l_behind := d_l_behind, m_l_behind := PySem.W.mg_of X G m_l_behind, F_l_behind := F_l_behind, k_l_behind := F_l_behind.2, b_l_behind := F_l_behind.binds fun _ _ _ _ _ _ us hl => match us, hl with | [_, _], _ => rfl,
    a_l_still := a_l_still, d_l_still := d_l_still, m_l_still := PySem.W.mg_of X G m_l_still, F_l_still := F_l_still, k_l_still := F_l_still.2, b_l_still := F_l_still.binds fun _ _ _ _ _ _ us hl => match us, hl with | [_], _ => rfl,
    a_l_powered := a_l_powered, d_l_powered := d_l_powered, m_l_powered := PySem.W.mg_of X G m_l_powered, F_l_powered := F_l_powered, k_l_powered := F_l_powered.2, b_l_powered := F_l_powered.binds fun _ _ _ _ _ _ us hl => match us, hl with | [_, _, _], _ => rfl,
    a_right := a_right, d_right := d_right, m_right := PySem.W.mg_of X G m_right, F_right := F_right, k_right := F_right.2, b_right := F_right.binds fun _ _ _ _ _ _ us hl => match us, hl with | [_], _ => rfl,
    a_jug := a_jug, d_jug := d_jug, m_jug := PySem.W.mg_of X G m_jug, F_jug := F_jug, k_jug := F_jug.2, b_jug := F_jug.binds fun _ _ _ _ _ _ us hl => match us, hl with | [_, _], _ => rfl,
    a_law := a_law, d_law := d_law, m_law := PySem.W.mg_of X G m_law, F_law := F_law, k_law := F_law.2, b_law := F_law.binds fun _ _ _ _ _ _ us hl => match us, hl with | [_], _ => rfl,
    a_CaskError := a_CaskError, c_CaskError := PySem.W.mg_of X G c_CaskError,
    a_InvalidTable := a_InvalidTable, c_InvalidTable := PySem.W.mg_of X G c_InvalidTable,
    a_InvalidNumber := a_InvalidNumber, c_InvalidNumber := PySem.W.mg_of X G c_InvalidNumber,
    a_Unlike := a_Unlike, c_Unlike := PySem.W.mg_of X G c_Unlike,
    a_init := a_init, d_init := d_init, F_init := F_init, t_init := t_init, b_init := F_init.binds fun _ _ _ _ _ _ us hl => match us, hl with | [_, _], _ => rfl, n_ValueError := PySem.W.mg_none_of X G n_ValueError, v_ValueError := v_ValueError,
    e_Unlike := ⟨PySem.W.mg_of X G c_Unlike, o_Unlike, j_Unlike, y_Unlike, v_Unlike⟩,
    e_InvalidTable := ⟨PySem.W.mg_of X G c_InvalidTable, o_InvalidTable, j_InvalidTable, y_InvalidTable, v_InvalidTable⟩,
    e_InvalidNumber := ⟨PySem.W.mg_of X G c_InvalidNumber, o_InvalidNumber, j_InvalidNumber, y_InvalidNumber, v_InvalidNumber⟩,
    i_InvalidNumber := fun c C hc hm => (by
      simp only [errNames, List.mem_cons, List.not_mem_nil, or_false] at hc
      rcases hc with rfl | rfl | rfl
      · have e := (PySem.W.mg_of X G c_Unlike).symm.trans hm
        cases e
        exact i_Unlike_InvalidNumber.trans (by decide +kernel)
      · have e := (PySem.W.mg_of X G c_InvalidTable).symm.trans hm
        cases e
        exact i_InvalidTable_InvalidNumber.trans (by decide +kernel)
      · have e := (PySem.W.mg_of X G c_InvalidNumber).symm.trans hm
        cases e
        exact i_InvalidNumber_InvalidNumber.trans (by decide +kernel)),
    i_InvalidTable := fun c C hc hm => (by
      simp only [errNames, List.mem_cons, List.not_mem_nil, or_false] at hc
      rcases hc with rfl | rfl | rfl
      · have e := (PySem.W.mg_of X G c_Unlike).symm.trans hm
        cases e
        exact i_Unlike_InvalidTable.trans (by decide +kernel)
      · have e := (PySem.W.mg_of X G c_InvalidTable).symm.trans hm
        cases e
        exact i_InvalidTable_InvalidTable.trans (by decide +kernel)
      · have e := (PySem.W.mg_of X G c_InvalidNumber).symm.trans hm
        cases e
        exact i_InvalidNumber_InvalidTable.trans (by decide +kernel)),
    i_Unlike := fun c C hc hm => (by
      simp only [errNames, List.mem_cons, List.not_mem_nil, or_false] at hc
      rcases hc with rfl | rfl | rfl
      · have e := (PySem.W.mg_of X G c_Unlike).symm.trans hm
        cases e
        exact i_Unlike_Unlike.trans (by decide +kernel)
      · have e := (PySem.W.mg_of X G c_InvalidTable).symm.trans hm
        cases e
        exact i_InvalidTable_Unlike.trans (by decide +kernel)
      · have e := (PySem.W.mg_of X G c_InvalidNumber).symm.trans hm
        cases e
        exact i_InvalidNumber_Unlike.trans (by decide +kernel)),
    x_CaskError := fun e C b hm hb => (by
      unfold cat_CaskError at hb
      split at hb
      · rename_i hc
        simp only [errNames, List.mem_cons, List.not_mem_nil, or_false] at hc
        rcases hc with rfl | rfl | rfl
        · have e := (PySem.W.mg_of X G c_Unlike).symm.trans hm
          cases e
          exact x_Unlike_CaskError.trans hb
        · have e := (PySem.W.mg_of X G c_InvalidTable).symm.trans hm
          cases e
          exact x_InvalidTable_CaskError.trans hb
        · have e := (PySem.W.mg_of X G c_InvalidNumber).symm.trans hm
          cases e
          exact x_InvalidNumber_CaskError.trans hb
      · cases hb),
    t_MOST_CASKS := t_MOST_CASKS, c_MOST_CASKS := PySem.W.mg_of X G c_MOST_CASKS,
    a_ONE := a_ONE, c_ONE := PySem.W.mg_of X G c_ONE, z_ONE := fun _ => sqT_obj l_ONE r_ONE y_ONE,
    a_ZERO := a_ZERO, c_ZERO := PySem.W.mg_of X G c_ZERO, z_ZERO := fun _ => sqT_obj l_ZERO r_ZERO y_ZERO,
    n_gcd := PySem.W.mg_of X G n_gcd,
    n_lcm := PySem.W.mg_of X G n_lcm,
    n_abs := PySem.W.mg_none_of X G n_abs,
    n_all := PySem.W.mg_none_of X G n_all,
    n_bool := PySem.W.mg_none_of X G n_bool,
    n_int := PySem.W.mg_none_of X G n_int,
    n_isinstance := PySem.W.mg_none_of X G n_isinstance,
    n_len := PySem.W.mg_none_of X G n_len,
    n_list := PySem.W.mg_none_of X G n_list,
    n_max := PySem.W.mg_none_of X G n_max,
    n_range := PySem.W.mg_none_of X G n_range,
    n_repr := PySem.W.mg_none_of X G n_repr,
    n_sum := PySem.W.mg_none_of X G n_sum,
    n_tuple := PySem.W.mg_none_of X G n_tuple,
    n_zip := PySem.W.mg_none_of X G n_zip }
end MI.K02

set_option Elab.async false
set_option linter.all false
set_option maxRecDepth 100000
set_option maxHeartbeats 1000000
/-! # Values with their lists inside: what a store's value reads as, whatever else changes -/
namespace MI
open PySem PySem.Spec PyProof.Rows L2

inductive U where
  | non | bl (b : Bool) | int (i : Int) | str (x : Str) | tup (xs : List U) | lst (xs : List U) | dct (ks : List Key) (vs : List U) | exc (c : Str) (v : U) | jug | fro (xs : List U)
mutual
/-- d reads as u, by no place of P (those that change at will) and none of X -/
inductive Vw (P X : List Nat) (S : Store) : D → U → Prop
  | non : Vw P X S .non .non
  | bl (b : Bool) : Vw P X S (.bl b) (.bl b)
  | int (i : Int) : Vw P X S (.int i) (.int i)
  | str (x : Str) : Vw P X S (.str x) (.str x)
  | tup {ds : List D} {us : List U} (h : Vws P X S ds us) : Vw P X S (.tup ds) (.tup us)
  | lst {i : Nat} {ds : List D} {us : List U} (hp : i ∉ P) (hx : i ∉ X) (e : S[i]? = some (.lst ds)) (h : Vws P X S ds us) : Vw P X S (.ref i) (.lst us)
  | dct {i : Nat} {kvs : List (Key × D)} {us : List U} (hp : i ∉ P) (hx : i ∉ X) (e : S[i]? = some (.dct kvs)) (h : Vws P X S (kvs.map (·.2)) us) : Vw P X S (.ref i) (.dct (kvs.map (·.1)) us)
  | exc {i : Nat} {c : Str} {d : D} {u : U} (hp : i ∉ P) (hx : i ∉ X) (e : S[i]? = some (.exc c d)) (h : Vw P X S d u) : Vw P X S (.ref i) (.exc c u)
  | jug {i : Nat} (hp : i ∈ P) : Vw P X S (.ref i) .jug
  | fro {ds : List D} {us : List U} (h : Vws P X S ds us) : Vw P X S (.fro ds) (.fro us)
inductive Vws (P X : List Nat) (S : Store) : List D → List U → Prop
  | nil : Vws P X S [] []
  | cons {d : D} {u : U} {ds : List D} {us : List U} (h : Vw P X S d u) (r : Vws P X S ds us) : Vws P X S (d :: ds) (u :: us)
end
/-- a place of numbers that are drawn from -/
def JugC (K : Nat) (S : Store) (i : Nat) : Prop := ∃ a x k : Int, S[i]? = some (.lst [.int a, .int x, .int k]) ∧ 0 ≤ x ∧ x < 1000000000000000000000000000000 ∧ 0 ≤ k ∧ k ≤ K
def Closed (S : Store) : Prop := ∀ (i : Nat) (c : Cell), S[i]? = some c → cellBelow S.length c = true
/-- the world: the places that are drawn from, nothing dangles, X lies in the store -/
structure Wd (K : Nat) (P X : List Nat) (S : Store) : Prop where
  jug : ∀ i ∈ P, JugC K S i
  cl : Closed S
  xl : ∀ a ∈ X, a < S.length
/-- from S to S': what is not in P nor in L stays -/
structure Stp (P L : List Nat) (S : Store) (P' : List Nat) (S' : Store) : Prop where
  sub : ∀ i ∈ P, i ∈ P'
  new : ∀ i ∈ P', i ∈ P ∨ S.length ≤ i
  keep : ∀ (i : Nat) (c : Cell), S[i]? = some c → i ∉ P → i ∉ L → S'[i]? = some c
  len : S.length ≤ S'.length
theorem lt_of_get {α : Type} {S : List α} {i : Nat} {c : α} (h : S[i]? = some c) : i < S.length := (List.getElem?_eq_some_iff.mp h).1
theorem Stp.refl {P L : List Nat} {S : Store} : Stp P L S P S := ⟨fun _ h => h, fun _ h => .inl h, fun _ _ h _ _ => h, Nat.le_refl _⟩
theorem Stp.app {P L : List Nat} {S T : Store} : Stp P L S P (S ++ T) := ⟨fun _ h => h, fun _ h => .inl h, fun _ _ h _ _ => by rw [List.getElem?_append_left (lt_of_get h)]; exact h, by simp⟩
theorem Stp.trans {P L P1 L1 P2 : List Nat} {S S1 S2 : Store} (a : Stp P L S P1 S1) (b : Stp P1 L1 S1 P2 S2) (hl : ∀ i ∈ L1, i ∈ L ∨ S.length ≤ i) : Stp P L S P2 S2 := by
  refine ⟨fun i h => b.sub i (a.sub i h), fun i h => ?_, fun i c h hp hL => ?_, Nat.le_trans a.len b.len⟩
  · rcases b.new i h with h | h
    · exact a.new i h
    · exact .inr (Nat.le_trans a.len h)
  · have hi := lt_of_get h
    refine b.keep i c (a.keep i c h hp hL) (fun z => ?_) fun z => ?_
    · rcases a.new i z with z | z
      · exact hp z
      · omega
    · rcases hl i z with z | z
      · exact hL z
      · omega
theorem Stp.nilL {P L P' : List Nat} {S S' : Store} (a : Stp P [] S P' S') : Stp P L S P' S' := ⟨a.sub, a.new, fun i c h hp _ => a.keep i c h hp (by simp), a.len⟩
section
variable {P X L P' X' : List Nat} {S S' : Store}
mutual
theorem Vw.mono (s : Stp P L S P' S') (hl : ∀ i ∈ L, i ∈ X) (hx : ∀ i ∈ X', i ∈ X ∨ S.length ≤ i) : ∀ {d : D} {u : U}, Vw P X S d u → Vw P' X' S' d u
  | _, _, .non => .non
  | _, _, .bl b => .bl b
  | _, _, .int i => .int i
  | _, _, .str x => .str x
  | _, _, .tup h => .tup (Vws.mono s hl hx h)
  | _, _, .lst hp hx0 e h => .lst (fun z => (s.new _ z).elim hp fun w => by have := lt_of_get e; omega) (fun z => (hx _ z).elim hx0 fun w => by have := lt_of_get e; omega) (s.keep _ _ e hp fun z => hx0 (hl _ z)) (Vws.mono s hl hx h)
  | _, _, .dct hp hx0 e h => .dct (fun z => (s.new _ z).elim hp fun w => by have := lt_of_get e; omega) (fun z => (hx _ z).elim hx0 fun w => by have := lt_of_get e; omega) (s.keep _ _ e hp fun z => hx0 (hl _ z)) (Vws.mono s hl hx h)
  | _, _, .exc hp hx0 e h => .exc (fun z => (s.new _ z).elim hp fun w => by have := lt_of_get e; omega) (fun z => (hx _ z).elim hx0 fun w => by have := lt_of_get e; omega) (s.keep _ _ e hp fun z => hx0 (hl _ z)) (Vw.mono s hl hx h)
  | _, _, .jug hp => .jug (s.sub _ hp)
  | _, _, .fro h => .fro (Vws.mono s hl hx h)
theorem Vws.mono (s : Stp P L S P' S') (hl : ∀ i ∈ L, i ∈ X) (hx : ∀ i ∈ X', i ∈ X ∨ S.length ≤ i) : ∀ {d : List D} {u : List U}, Vws P X S d u → Vws P' X' S' d u
  | _, _, .nil => .nil
  | _, _, .cons h r => .cons (Vw.mono s hl hx h) (Vws.mono s hl hx r)
end
theorem Vw.step (s : Stp P [] S P' S') {d : D} {u : U} (h : Vw P X S d u) : Vw P' X S' d u := h.mono s (fun _ h => by cases h) fun _ h => .inl h
theorem Vws.step (s : Stp P [] S P' S') {d : List D} {u : List U} (h : Vws P X S d u) : Vws P' X S' d u := h.mono s (fun _ h => by cases h) fun _ h => .inl h
theorem Vw.app {T : Store} {d : D} {u : U} (h : Vw P X S d u) : Vw P X (S ++ T) d u := h.step Stp.app
theorem Vws.app {T : Store} {d : List D} {u : List U} (h : Vws P X S d u) : Vws P X (S ++ T) d u := h.step Stp.app
theorem Vw.less (hx : ∀ i ∈ X', i ∈ X) {d : D} {u : U} (h : Vw P X S d u) : Vw P X' S d u := h.mono (L := []) Stp.refl (fun _ h => by cases h) fun i h => .inl (hx i h)
theorem Vws.less (hx : ∀ i ∈ X', i ∈ X) {d : List D} {u : List U} (h : Vws P X S d u) : Vws P X' S d u := h.mono (L := []) Stp.refl (fun _ h => by cases h) fun i h => .inl (hx i h)
theorem Vws.length : ∀ {ds : List D} {us : List U}, Vws P X S ds us → ds.length = us.length
  | _, _, .nil => rfl
  | _, _, .cons _ r => by rw [List.length_cons, List.length_cons, Vws.length r]
theorem Vws.get : ∀ {ds : List D} {us : List U} {i : Nat} {u : U}, Vws P X S ds us → us[i]? = some u → ∃ d, ds[i]? = some d ∧ Vw P X S d u
  | _, _, _, _, .nil, h => by simp at h
  | _, _, 0, u, .cons h r, e => by simp at e; subst e; exact ⟨_, rfl, h⟩
  | _, _, i + 1, d, .cons h r, e => by
    obtain ⟨v, a, b⟩ := Vws.get (i := i) r (by simpa using e)
    exact ⟨v, by simpa using a, b⟩
theorem Vws.cat : ∀ {ds es : List D} {us vs : List U}, Vws P X S ds us → Vws P X S es vs → Vws P X S (ds ++ es) (us ++ vs)
  | _, _, _, _, .nil, s => s
  | _, _, _, _, .cons h r, s => .cons h (Vws.cat r s)
theorem Vws.set {d : D} {u : U} (q : Vw P X S d u) : ∀ {ds : List D} {us : List U} (i : Nat), Vws P X S ds us → Vws P X S (ds.set i d) (us.set i u)
  | _, _, _, .nil => .nil
  | _, _, 0, .cons _ r => .cons q r
  | _, _, i + 1, .cons h r => .cons h (Vws.set q i r)
theorem Vws.take : ∀ {ds : List D} {us : List U} (n : Nat), Vws P X S ds us → Vws P X S (ds.take n) (us.take n)
  | _, _, 0, _ => .nil
  | _, _, _ + 1, .nil => .nil
  | _, _, n + 1, .cons h r => .cons h (Vws.take n r)
theorem Vws.drop : ∀ {ds : List D} {us : List U} (n : Nat), Vws P X S ds us → Vws P X S (ds.drop n) (us.drop n)
  | _, _, 0, r => r
  | _, _, _ + 1, .nil => .nil
  | _, _, n + 1, .cons _ r => Vws.drop n r
theorem Vws.rep {ds : List D} {us : List U} (r : Vws P X S ds us) : ∀ n : Nat, Vws P X S (List.replicate n ds).flatten (List.replicate n us).flatten
  | 0 => .nil
  | n + 1 => by
    rw [List.replicate_succ, List.replicate_succ, List.flatten_cons, List.flatten_cons]
    exact r.cat (Vws.rep r n)
/-! inversion -/
theorem Vw.int_inv {d : D} {i : Int} (h : Vw P X S d (.int i)) : d = .int i := by cases h; rfl
theorem Vw.bl_inv {d : D} {i : Bool} (h : Vw P X S d (.bl i)) : d = .bl i := by cases h; rfl
theorem Vw.non_inv {d : D} (h : Vw P X S d .non) : d = .non := by cases h; rfl
theorem Vw.str_inv {d : D} {i : Str} (h : Vw P X S d (.str i)) : d = .str i := by cases h; rfl
theorem Vw.tup_inv {d : D} {us : List U} (h : Vw P X S d (.tup us)) : ∃ ds, d = .tup ds ∧ Vws P X S ds us := by cases h; exact ⟨_, rfl, by assumption⟩
theorem Vw.lst_inv {d : D} {us : List U} (h : Vw P X S d (.lst us)) : ∃ i ds, d = .ref i ∧ i ∉ P ∧ i ∉ X ∧ S[i]? = some (.lst ds) ∧ Vws P X S ds us := by
  cases h; exact ⟨_, _, rfl, by assumption, by assumption, by assumption, by assumption⟩
theorem Vw.exc_inv {d : D} {c : Str} {u : U} (h : Vw P X S d (.exc c u)) : ∃ i e, d = .ref i ∧ i ∉ P ∧ i ∉ X ∧ S[i]? = some (.exc c e) ∧ Vw P X S e u := by
  cases h; exact ⟨_, _, rfl, by assumption, by assumption, by assumption, by assumption⟩
theorem Vw.dct_inv {d : D} {ks : List Key} {us : List U} (h : Vw P X S d (.dct ks us)) : ∃ i kvs, d = .ref i ∧ i ∉ P ∧ i ∉ X ∧ S[i]? = some (.dct kvs) ∧ ks = kvs.map (·.1) ∧ Vws P X S (kvs.map (·.2)) us := by
  cases h; exact ⟨_, _, rfl, by assumption, by assumption, by assumption, rfl, by assumption⟩
theorem Vw.fro_inv {d : D} {us : List U} (h : Vw P X S d (.fro us)) : ∃ ds, d = .fro ds ∧ Vws P X S ds us := by cases h; exact ⟨_, rfl, by assumption⟩
theorem Vw.jug_inv {d : D} (h : Vw P X S d .jug) : ∃ i, d = .ref i ∧ i ∈ P := by cases h; exact ⟨_, rfl, by assumption⟩
/-! nothing dangles -/
mutual
theorem Vw.bel (hP : ∀ i ∈ P, i < S.length) : ∀ {d : D} {u : U}, Vw P X S d u → MI.below S.length d = true
  | _, _, .non => rfl
  | _, _, .bl b => rfl
  | _, _, .int i => rfl
  | _, _, .str x => rfl
  | _, _, .tup h => by
    show MI.belows S.length _ = true
    exact Vws.bels hP h
  | _, _, .lst hp hx e h => by simpa [MI.below] using lt_of_get e
  | _, _, .dct hp hx e h => by simpa [MI.below] using lt_of_get e
  | _, _, .exc hp hx e h => by simpa [MI.below] using lt_of_get e
  | _, _, .jug hp => by simpa [MI.below] using hP _ hp
  | _, _, .fro h => by
    show MI.belows S.length _ = true
    exact Vws.bels hP h
theorem Vws.bels (hP : ∀ i ∈ P, i < S.length) : ∀ {d : List D} {u : List U}, Vws P X S d u → MI.belows S.length d = true
  | _, _, .nil => rfl
  | _, _, .cons h r => by simp [MI.belows, Vw.bel hP h, Vws.bels hP r]
end
theorem Wd.pl {K : Nat} (w : Wd K P X S) : ∀ i ∈ P, i < S.length := fun i h => by
  obtain ⟨_, _, _, e, _⟩ := w.jug i h
  exact lt_of_get e
mutual
theorem below_le {n m : Nat} (h : n ≤ m) : ∀ (d : D), MI.below n d = true → MI.below m d = true
  | .non, _ => rfl
  | .bl b, _ => rfl
  | .int i, _ => rfl
  | .str x, _ => rfl
  | .tup ds, e => by
    have e : MI.belows n ds = true := e
    exact belows_le h ds e
  | .fro ds, e => by
    have e : MI.belows n ds = true := e
    exact belows_le h ds e
  | .ref i, e => by
    have e : i < n := by simpa [MI.below] using e
    simp [MI.below]; omega
theorem belows_le {n m : Nat} (h : n ≤ m) : ∀ (d : List D), MI.belows n d = true → MI.belows m d = true
  | [], _ => rfl
  | d :: ds, e => by
    simp only [MI.belows, Bool.and_eq_true] at e ⊢
    exact ⟨below_le h d e.1, belows_le h ds e.2⟩
end
theorem cellBelow_le {n m : Nat} (h : n ≤ m) (c : Cell) (e : cellBelow n c = true) : cellBelow m c = true := by
  cases c with
  | lst xs => exact belows_le h _ e
  | dct kvs => exact belows_le h _ e
  | exc c v => exact below_le h _ e
theorem Closed.app {c : Cell} (h : Closed S) (hc : cellBelow (S.length + 1) c = true) : Closed (S ++ [c]) := fun i c' e => by
  rw [List.length_append, List.length_singleton]
  by_cases hi : i < S.length
  · rw [List.getElem?_append_left hi] at e
    exact cellBelow_le (by omega) _ (h i c' e)
  · have e1 := lt_of_get e
    rw [List.length_append, List.length_singleton] at e1
    have : i = S.length := by omega
    subst this
    simp at e
    subst e
    exact hc
theorem Closed.set {c : Cell} {i : Nat} (h : Closed S) (hc : cellBelow S.length c = true) : Closed (S.set i c) := fun j c' e => by
  rw [List.length_set]
  by_cases hj : j = i
  · subst hj
    by_cases hl : j < S.length
    · rw [List.getElem?_set_self hl] at e
      cases e; exact hc
    · rw [List.set_eq_of_length_le (by omega)] at e
      exact h _ _ e
  · rw [List.getElem?_set_ne (Ne.symm hj)] at e
    exact h _ _ e
theorem Wd.app {K : Nat} {c : Cell} (w : Wd K P X S) (hc : cellBelow (S.length + 1) c = true) : Wd K P X (S ++ [c]) := by
  refine ⟨fun i hi => ?_, w.cl.app hc, fun a h => by have := w.xl a h; simp; omega⟩
  obtain ⟨a, x, k, e, r⟩ := w.jug i hi
  exact ⟨a, x, k, by rw [List.getElem?_append_left (lt_of_get e)]; exact e, r⟩
theorem Wd.le {K K' : Nat} (w : Wd K P X S) (h : K ≤ K') : Wd K' P X S := ⟨fun i hi => by
  obtain ⟨a, x, k, e, r1, r2, r3, r4⟩ := w.jug i hi
  exact ⟨a, x, k, e, r1, r2, r3, by omega⟩, w.cl, w.xl⟩
theorem Wd.less {K : Nat} (w : Wd K P X S) (hx : ∀ i ∈ X', i ∈ X) : Wd K P X' S := ⟨w.jug, w.cl, fun a h => w.xl a (hx a h)⟩
end
/-! ### what a call leaves of the store -/
def cutP (n : Nat) (P : List Nat) : List Nat := P.filter (fun i => decide (i < n))
section
variable {P O : List Nat} {S : Store} {n : Nat}
theorem get_take {i : Nat} {c : Cell} (h : S[i]? = some c) (hi : i < n) : (S.take n)[i]? = some c := by rw [List.getElem?_take_of_lt hi]; exact h
mutual
theorem Vw.cut (hn : n ≤ S.length) (hc : ∀ i c, i < n → S[i]? = some c → cellBelow n c = true) (T : Store) (P' : List Nat) (hP : ∀ i ∈ P, i < n → i ∈ P') (hP2 : ∀ i ∈ P', i ∈ P ∨ n ≤ i) : ∀ {d : D} {u : U}, Vw P O S d u → MI.below n d = true → Vw P' O (S.take n ++ T) d u
  | _, _, .non, _ => .non
  | _, _, .bl b, _ => .bl b
  | _, _, .int i, _ => .int i
  | _, _, .str x, _ => .str x
  | _, _, .tup h, b => .tup (Vws.cut hn hc T P' hP hP2 h b)
  | _, _, @Vw.lst _ _ _ i ds us hp hx e h, b => by
    have hi : i < n := by simpa [MI.below] using b
    exact .lst (fun z => (hP2 i z).elim hp (by omega)) hx (by rw [List.getElem?_append_left (by rw [List.length_take]; omega)]; exact get_take e hi) (Vws.cut hn hc T P' hP hP2 h (hc i _ hi e))
  | _, _, @Vw.dct _ _ _ i kvs us hp hx e h, b => by
    have hi : i < n := by simpa [MI.below] using b
    exact .dct (fun z => (hP2 i z).elim hp (by omega)) hx (by rw [List.getElem?_append_left (by rw [List.length_take]; omega)]; exact get_take e hi) (Vws.cut hn hc T P' hP hP2 h (hc i _ hi e))
  | _, _, @Vw.exc _ _ _ i c d u hp hx e h, b => by
    have hi : i < n := by simpa [MI.below] using b
    exact .exc (fun z => (hP2 i z).elim hp (by omega)) hx (by rw [List.getElem?_append_left (by rw [List.length_take]; omega)]; exact get_take e hi) (Vw.cut hn hc T P' hP hP2 h (hc i _ hi e))
  | _, _, @Vw.jug _ _ _ i hp, b => .jug (hP i hp (by simpa [MI.below] using b))
  | _, _, .fro h, b => .fro (Vws.cut hn hc T P' hP hP2 h b)
theorem Vws.cut (hn : n ≤ S.length) (hc : ∀ i c, i < n → S[i]? = some c → cellBelow n c = true) (T : Store) (P' : List Nat) (hP : ∀ i ∈ P, i < n → i ∈ P') (hP2 : ∀ i ∈ P', i ∈ P ∨ n ≤ i) : ∀ {d : List D} {u : List U}, Vws P O S d u → MI.belows n d = true → Vws P' O (S.take n ++ T) d u
  | _, _, .nil, _ => .nil
  | _, _, .cons h r, b => by
    simp only [MI.belows, Bool.and_eq_true] at b
    exact .cons (Vw.cut hn hc T P' hP hP2 h b.1) (Vws.cut hn hc T P' hP hP2 r b.2)
end
end
section
variable {K K' : Nat} {P O P' : List Nat} {S S' : Store}
theorem keeps_below (w : Closed S) (k : keeps S.length S S' = true) : ∀ i c, i < S.length → S'[i]? = some c → cellBelow S.length c = true := fun i c hi e => by
  rcases keeps_get k (List.getElem?_eq_getElem hi) e with h | h
  · subst h; exact w i _ (List.getElem?_eq_getElem hi)
  · exact h
theorem mem_cutP {n i : Nat} : i ∈ cutP n P ↔ i ∈ P ∧ i < n := by unfold cutP; simp
theorem take_len (k : keeps S.length S S' = true) : (S'.take S.length).length = S.length := by
  have := keeps_len k
  rw [List.length_take]; omega
theorem cut_stp (w : Wd K P O S) (s : Stp P [] S P' S') (k : keeps S.length S S' = true) (T : Store) (P2 : List Nat) (h2 : ∀ i ∈ P2, i ∈ cutP S.length P' ∨ S.length ≤ i) (h3 : ∀ i ∈ cutP S.length P', i ∈ P2) : Stp P [] S P2 (S'.take S.length ++ T) :=
  ⟨fun i h => h3 i (mem_cutP.mpr ⟨s.sub i h, w.pl i h⟩), fun i h => (h2 i h).imp (fun h => (s.new i (mem_cutP.mp h).1).elim (fun z => z) fun z => by have := (mem_cutP.mp h).2; omega) fun h => h,
    fun i c e hp hl => by rw [List.getElem?_append_left (by rw [take_len k]; exact lt_of_get e)]; exact get_take (s.keep i c e hp hl) (lt_of_get e), by rw [List.length_append, take_len k]; omega⟩
theorem cut_jug (w' : Wd K' P' O S') (k : keeps S.length S S' = true) (T : Store) : ∀ i ∈ cutP S.length P', JugC K' (S'.take S.length ++ T) i := fun i h => by
  obtain ⟨a, x, n, e, r⟩ := w'.jug i (mem_cutP.mp h).1
  exact ⟨a, x, n, by rw [List.getElem?_append_left (by rw [take_len k]; exact (mem_cutP.mp h).2)]; exact get_take e (mem_cutP.mp h).2, r⟩
theorem cut_closed (w : Closed S) (k : keeps S.length S S' = true) : Closed (S'.take S.length) := fun i c e => by
  have hi := lt_of_get e
  rw [take_len k] at hi ⊢
  rw [List.getElem?_take_of_lt hi] at e
  exact keeps_below w k i c hi e
/-- the value of a call -/
theorem ret_vw {d : D} {u : U} (w : Wd K P O S) (w' : Wd K' P' O S') (s : Stp P [] S P' S') (h : Vw P' O S' d u) : ∃ P2 S2 d2, retOf S d S' = .ok d2 S2 ∧ Stp P [] S P2 S2 ∧ Wd K' P2 O S2 ∧ Vw P2 O S2 d2 u := by
  unfold retOf
  split
  · rename_i k
    have hb := keeps_below w.cl k
    have hl := keeps_len k
    have hP2 : ∀ i ∈ cutP S.length P', i ∈ P' ∨ S.length ≤ i := fun i h => .inl (mem_cutP.mp h).1
    split
    · rename_i b
      have v := Vw.cut hl hb [] (cutP S.length P') (fun i h h2 => mem_cutP.mpr ⟨h, h2⟩) hP2 h b
      have s2 := cut_stp w s k [] (cutP S.length P') (fun i h => .inl h) (fun i h => h)
      have j := cut_jug w' k []
      rw [List.append_nil] at v s2 j
      exact ⟨_, _, _, rfl, s2, ⟨j, cut_closed w.cl k, fun a ha => by rw [take_len k]; exact w.xl a ha⟩, v⟩
    · rename_i nb
      split
      · rename_i i
        split
        · rename_i xs hxs
          split
          · rename_i bx
            have lt := take_len k
            have hX : ∀ a ∈ O, a < S.length := w.xl
            have xl2 : ∀ a ∈ O, a < (S'.take S.length ++ [Cell.lst xs]).length := fun a ha => by rw [List.length_append, lt]; have := w.xl a ha; omega
            have cl2 : Closed (S'.take S.length ++ [Cell.lst xs]) := (cut_closed w.cl k).app (by rw [lt]; exact belows_le (by omega) _ bx)
            generalize hd : D.ref i = d at h
            cases h with
            | lst hp hx e hv =>
              cases hd
              rw [hxs] at e
              cases e
              refine ⟨cutP S.length P', _, _, rfl, cut_stp w s k _ _ (fun i h => .inl h) (fun i h => h), ⟨cut_jug w' k _, cl2, xl2⟩, ?_⟩
              refine .lst (ds := xs) (fun z => by have := (mem_cutP.mp z).2; omega) (fun z => by have := w.xl _ z; omega) (by rw [List.getElem?_append_right (by rw [lt]; exact Nat.le_refl _), lt]; simp) ?_
              exact Vws.cut hl hb _ (cutP S.length P') (fun i h h2 => mem_cutP.mpr ⟨h, h2⟩) hP2 hv bx
            | jug hp =>
              cases hd
              refine ⟨S.length :: cutP S.length P', _, _, rfl, cut_stp w s k _ _ (fun i h => ?_) (fun i h => List.mem_cons_of_mem _ h), ⟨fun i h => ?_, cl2, xl2⟩, .jug List.mem_cons_self⟩
              · rcases List.mem_cons.mp h with h | h
                · exact .inr (by omega)
                · exact .inl h
              · rcases List.mem_cons.mp h with h | h
                · subst h
                  obtain ⟨a, x, n, e, r⟩ := w'.jug _ hp
                  rw [hxs] at e
                  cases e
                  exact ⟨a, x, n, by rw [List.getElem?_append_right (by rw [lt]; exact Nat.le_refl _), lt]; simp, r⟩
                · exact cut_jug w' k _ i h
            | dct hp hx e hv => cases hd; rw [hxs] at e; cases e
            | exc hp hx e hv => cases hd; rw [hxs] at e; cases e
            | _ => cases hd
          · exact ⟨_, _, _, rfl, s, w', h⟩
        · exact ⟨_, _, _, rfl, s, w', h⟩
      · exact ⟨_, _, _, rfl, s, w', h⟩
  · exact ⟨_, _, _, rfl, s, w', h⟩
theorem exc_vw {c : Str} {d : D} {u : U} (w : Wd K P O S) (w' : Wd K' P' O S') (s : Stp P [] S P' S') (h : Vw P' O S' d u) : ∃ P2 S2 d2, excOf S c d S' = .exc c d2 S2 ∧ Stp P [] S P2 S2 ∧ Wd K' P2 O S2 ∧ Vw P2 O S2 d2 u := by
  unfold excOf
  split
  · rename_i hk
    obtain ⟨k, b⟩ := hk
    have v := Vw.cut (keeps_len k) (keeps_below w.cl k) [] (cutP S.length P') (fun i h h2 => mem_cutP.mpr ⟨h, h2⟩) (fun i h => .inl (mem_cutP.mp h).1) h b
    have s2 := cut_stp w s k [] (cutP S.length P') (fun i h => .inl h) (fun i h => h)
    have j := cut_jug w' k []
    rw [List.append_nil] at v s2 j
    exact ⟨_, _, _, rfl, s2, ⟨j, cut_closed w.cl k, fun a ha => by rw [take_len k]; exact w.xl a ha⟩, v⟩
  · exact ⟨_, _, _, rfl, s, w', h⟩
end
end MI

set_option Elab.async false
set_option linter.all false
set_option maxRecDepth 100000
set_option maxHeartbeats 1000000
/-! # Texts as what they do with values: expressions -/
namespace MI
open PySem PySem.Spec PyProof.Rows L2
def KM : Nat := 2 ^ 8000
inductive UO where
  | un | va (u : U) | ow (us : List U)
abbrev Env := List UO
/-- the slots hold what the environment says; lists of L are held by one slot each -/
structure Rel (P O L : List Nat) (η : Env) (ρ : Sl) (S : Store) : Prop where
  len : η.length = ρ.length
  va : ∀ (i : Nat) (u : U), η[i]? = some (.va u) → ∃ d, ρ[i]? = some (some d) ∧ Vw P (O ++ L) S d u
  ow : ∀ (i : Nat) (us : List U), η[i]? = some (.ow us) → ∃ a ds, ρ[i]? = some (some (.ref a)) ∧ a ∈ L ∧ a ∉ P ∧ S[a]? = some (.lst ds) ∧ Vws P (O ++ L) S ds us
  dis : ∀ (i j : Nat) (us vs : List U) (a : Nat), i ≠ j → η[i]? = some (.ow us) → η[j]? = some (.ow vs) → ρ[i]? = some (some (.ref a)) → ρ[j]? ≠ some (some (.ref a))
  dj : ∀ a ∈ L, a ∉ O
theorem Rel.step {P O L P' : List Nat} {η : Env} {ρ : Sl} {S S' : Store} (r : Rel P O L η ρ S) (s : Stp P [] S P' S') : Rel P' O L η ρ S' := by
  refine ⟨r.len, fun i u h => ?_, fun i us h => ?_, r.dis, r.dj⟩
  · obtain ⟨d, e, v⟩ := r.va i u h
    exact ⟨d, e, v.step s⟩
  · obtain ⟨a, ds, e, hl, hp, hs, v⟩ := r.ow i us h
    exact ⟨a, ds, e, hl, fun z => (s.new a z).elim hp fun w => by have := lt_of_get hs; omega, s.keep a _ hs hp (by simp), v.step s⟩
abbrev RT (α β : Type) := List Nat → List Nat → Store → α → β → Prop
def Out {α β : Type} (R : RT α β) (K : Nat) (P X : List Nat) (S : Store) (r : Res α) (Q : β → Prop) (E : Str → U → Prop) : Prop := match r with
  | .ok a S' => ∃ P' b, Stp P [] S P' S' ∧ Wd K P' X S' ∧ R P' X S' a b ∧ Q b
  | .exc c d S' => ∃ P' u, Stp P [] S P' S' ∧ Wd K P' X S' ∧ Vw P' X S' d u ∧ E c u
  | .no => False
abbrev VT (β : Type) := Env → (β → Prop) → (Str → U → Prop) → Prop
def Sem {α β : Type} (R : RT α β) (c : Nat) (m : M α) (v : VT β) : Prop := ∀ η Q E, v η Q E → ∀ K P O L ρ S, K + c ≤ KM → Wd K P (O ++ L) S → Rel P O L η ρ S → Out R (K + c) P (O ++ L) S (m ρ S) Q E
abbrev RV : RT D U := fun P X S d u => Vw P X S d u
abbrev Rs : RT (List D) (List U) := fun P X S d u => Vws P X S d u
abbrev RB : RT Bool Bool := fun _ _ _ a b => a = b
abbrev RO : RT (Option Int) (Option Int) := fun _ _ _ a b => a = b
abbrev RI : RT Src (List U) := fun P X S src us => Vws P X S src.items us ∧ ∀ p ∈ src.cells, p.1 ∉ P ∧ p.1 ∉ X ∧ S[p.1]? = some (.lst p.2)
section
variable {α β γ δ : Type} {R : RT α β} {R2 : RT γ δ} {K K1 K2 : Nat} {P P1 X : List Nat} {S S1 : Store} {r : Res α} {Q Q1 : β → Prop} {E : Str → U → Prop}
theorem Out.le (h : Out R K1 P X S r Q E) (l : K1 ≤ K2) : Out R K2 P X S r Q E := by
  cases r with
  | ok a S' => obtain ⟨P', b, s, w, z⟩ := h; exact ⟨P', b, s, w.le l, z⟩
  | exc c d S' => obtain ⟨P', b, s, w, z⟩ := h; exact ⟨P', b, s, w.le l, z⟩
  | no => exact h
theorem Out.from (s : Stp P [] S P1 S1) (h : Out R K P1 X S1 r Q E) : Out R K P X S r Q E := by
  cases r with
  | ok a S' => obtain ⟨P', b, s', z⟩ := h; exact ⟨P', b, s.trans s' (fun _ h => by cases h), z⟩
  | exc c d S' => obtain ⟨P', b, s', z⟩ := h; exact ⟨P', b, s.trans s' (fun _ h => by cases h), z⟩
  | no => exact h
theorem Out.bind {Q2 : δ → Prop} {k : α → Store → Res γ} (h : Out R K1 P X S r Q1 E) (l : K1 ≤ K2) (hk : ∀ a b P1 S1, Stp P [] S P1 S1 → Wd K1 P1 X S1 → R P1 X S1 a b → Q1 b → Out R2 K2 P1 X S1 (k a S1) Q2 E) : Out R2 K2 P X S (r.bind k) Q2 E := by
  cases r with
  | ok a S' => obtain ⟨P', b, s, w, v, q⟩ := h; exact (hk a b P' S' s w v q).from s
  | exc c d S' => obtain ⟨P', b, s, w, z⟩ := h; exact ⟨P', b, s, w.le l, z⟩
  | no => exact h
theorem Out.ok {a : α} {b : β} (w : Wd K P X S) (v : R P X S a b) (q : Q b) : Out R K P X S (.ok a S) Q E := ⟨P, b, Stp.refl, w, v, q⟩
end
/-- what adds at most a cell -/
def GO (K : Nat) (P X : List Nat) (S : Store) (r : Res D) (Q : U → Prop) : Prop := ∃ d T u, r = .ok d (S ++ T) ∧ Wd K P X (S ++ T) ∧ Vw P X (S ++ T) d u ∧ Q u
section
variable {K : Nat} {P X : List Nat} {S : Store} {Q : U → Prop} {E : Str → U → Prop} {r : Res D}
theorem GO.out (h : GO K P X S r Q) : Out RV K P X S r Q E := by
  obtain ⟨d, T, u, rfl, w, v, q⟩ := h
  exact ⟨P, u, Stp.app, w, v, q⟩
theorem go_same {d : D} {u : U} (w : Wd K P X S) (v : Vw P X S d u) (q : Q u) : GO K P X S (.ok d S) Q := ⟨d, [], u, by rw [List.append_nil], by rw [List.append_nil]; exact w, by rw [List.append_nil]; exact v, q⟩
theorem go_lst {ds : List D} {us : List U} (w : Wd K P X S) (v : Vws P X S ds us) (q : Q (.lst us)) : GO K P X S (.ok (.ref S.length) (S ++ [.lst ds])) Q :=
  ⟨_, [.lst ds], _, rfl, w.app (belows_le (by omega) _ (v.bels w.pl)), .lst (fun z => by have := w.pl _ z; omega) (fun z => by have := w.xl _ z; omega) (by simp) v.app, q⟩
theorem go_dct {kvs : List (Key × D)} {us : List U} (w : Wd K P X S) (v : Vws P X S (kvs.map (·.2)) us) (q : Q (.dct (kvs.map (·.1)) us)) : GO K P X S (.ok (.ref S.length) (S ++ [.dct kvs])) Q :=
  ⟨_, [.dct kvs], _, rfl, w.app (belows_le (by omega) _ (v.bels w.pl)), .dct (fun z => by have := w.pl _ z; omega) (fun z => by have := w.xl _ z; omega) (by simp) v.app, q⟩
end
class DU (d : D) (u : outParam U) : Prop where ok : ∀ P X S, Vw P X S d u
class SE (m : M D) (v : outParam (VT U)) (c : outParam Nat) : Prop where ok : Sem RV c m v
class SA (m : M (List D)) (v : outParam (VT (List U))) (c : outParam Nat) : Prop where ok : Sem Rs c m v
class ST (m : M Bool) (v : outParam (VT Bool)) (c : outParam Nat) : Prop where ok : Sem RB c m v
class SI (m : M Src) (v : outParam (VT (List U))) (c : outParam Nat) : Prop where ok : Sem RI c m v
class SO (m : Option (M D)) (v : outParam (VT (Option Int))) (c : outParam Nat) : Prop where ok : Sem RO c (mPart m) v
abbrev V1T := U → (U → Prop) → Prop
abbrev V2T := U → U → (U → Prop) → Prop
abbrev VNT := List U → (U → Prop) → Prop
abbrev VFT := List U → (U → Prop) → (Str → U → Prop) → Prop
class S1 (g : D → Store → Res D) (h : outParam V1T) : Prop where ok : ∀ x Q, h x Q → ∀ K P X S dx, Wd K P X S → Vw P X S dx x → GO K P X S (g dx S) Q
class S2 (g : D → D → Store → Res D) (h : outParam V2T) : Prop where ok : ∀ x y Q, h x y Q → ∀ K P X S dx dy, Wd K P X S → Vw P X S dx x → Vw P X S dy y → GO K P X S (g dx dy S) Q
class SN (g : List D → Store → Res D) (h : outParam VNT) : Prop where ok : ∀ xs Q, h xs Q → ∀ K P X S ds, Wd K P X S → Vws P X S ds xs → GO K P X S (g ds S) Q
class SF (f : List D → Store → Res D) (h : outParam VFT) (c : outParam Nat) : Prop where ok : ∀ xs Q E, h xs Q E → ∀ K P X S ds, K + c ≤ KM → Wd K P X S → Vws P X S ds xs → Out RV (K + c) P X S (f ds S) Q E
/-! ### the words -/
def noE : Str → U → Prop := fun _ _ => False
def vC (u : U) : VT U := fun _ Q _ => Q u
def vV (i : Nat) : VT U := fun η Q _ => match η[i]? with
  | some (.va u) => Q u
  | _ => False
def vOp (h : V2T) (a b : VT U) : VT U := fun η Q E => a η (fun x => b η (fun y => h x y Q) E) E
def vUn (h : V1T) (a : VT U) : VT U := fun η Q E => a η (fun x => h x Q) E
def vNil : VT (List U) := fun _ Q _ => Q []
def vCons (a : VT U) (r : VT (List U)) : VT (List U) := fun η Q E => a η (fun x => r η (fun xs => Q (x :: xs)) E) E
def vApp (f : VFT) (as : VT (List U)) : VT U := fun η Q E => as η (fun xs => f xs Q E) E
def vTr (u : U) (Q : Bool → Prop) : Prop := match u with
  | .non => Q false
  | .bl b => Q b
  | .int i => Q (i != 0)
  | .tup xs => Q (!xs.isEmpty)
  | .lst xs => Q (!xs.isEmpty)
  | _ => False
def vTru (a : VT U) : VT Bool := fun η Q E => a η (fun x => vTr x Q) E
def vB (u : U) (Q : Bool → Prop) : Prop := match u with
  | .bl b => Q b
  | _ => False
def vTst (a : VT U) : VT Bool := fun η Q E => a η (fun x => vB x Q) E
def vAnd (a b : VT Bool) : VT Bool := fun η Q E => a η (fun c => if c = true then b η Q E else Q false) E
def vOr (a b : VT Bool) : VT Bool := fun η Q E => a η (fun c => if c = true then Q true else b η Q E) E
def vNot (a : VT Bool) : VT Bool := fun η Q E => a η (fun c => Q (!c)) E
def vAndV (a b : VT U) : VT U := fun η Q E => a η (fun x => vB x fun c => if c = true then b η Q E else Q (.bl false)) E
def vOrV (a b : VT U) : VT U := fun η Q E => a η (fun x => vB x fun c => if c = true then Q (.bl true) else b η Q E) E
def vNotV (a : VT U) : VT U := fun η Q E => a η (fun x => vB x fun c => Q (.bl (!c))) E
def vIf {α : Type} (c : VT Bool) (a b : VT α) : VT α := fun η Q E => c η (fun c => if c = true then a η Q E else b η Q E) E
def vChain (g g' : V2T) (a b c : VT U) : VT U := fun η Q E => a η (fun x => b η (fun y => g x y fun z => vB z fun k => if k = true then c η (fun w => g' y w Q) E else Q (.bl false)) E) E
def vBox (a : VT (List U)) : VT U := fun η Q E => a η (fun xs => Q (.lst xs)) E
def vL (h : VNT) (a : VT (List U)) : VT U := fun η Q E => a η (fun xs => h xs Q) E
section
variable {ca cb cc : Nat}
instance {i : Int} : DU (.int i) (.int i) := ⟨fun _ _ _ => .int i⟩
instance {i : Bool} : DU (.bl i) (.bl i) := ⟨fun _ _ _ => .bl i⟩
instance {i : Str} : DU (.str i) (.str i) := ⟨fun _ _ _ => .str i⟩
instance : DU .non .non := ⟨fun _ _ _ => .non⟩
instance {d : D} {u : U} [h : DU d u] : SE (mC d) (vC u) 0 := ⟨fun η Q E q K P O L ρ S hK w r => Out.ok w (h.ok _ _ _) q⟩
instance {i : Nat} : SE (mV i) (vV i) 0 := ⟨fun η Q E q K P O L ρ S hK w r => by
  unfold vV at q
  split at q
  · rename_i u hu
    obtain ⟨d, e, v⟩ := r.va i u hu
    unfold mV
    rw [e]
    exact Out.ok w v q
  · exact q.elim⟩
instance {g : D → D → Store → Res D} {h : V2T} {a b : M D} {va vb : VT U} [hg : S2 g h] [ha : SE a va ca] [hb : SE b vb cb] : SE (mOp g a b) (vOp h va vb) (ca + cb) := ⟨fun η Q E q K P O L ρ S hK w r => by
  refine Out.bind (ha.ok η _ E q K P O L ρ S (by omega) w r) (by omega) fun x u P1 S1 s1 w1 v1 q1 => ?_
  refine Out.bind (hb.ok η _ E q1 _ P1 O L ρ S1 (by omega) w1 (r.step s1)) (by omega) fun y t P2 S2 s2 w2 v2 q2 => ?_
  exact ((hg.ok _ _ _ q2 _ _ _ _ _ _ w2 (v1.step s2) v2).out).le (by omega)⟩
instance {g : D → Store → Res D} {h : V1T} {a : M D} {va : VT U} [hg : S1 g h] [ha : SE a va ca] : SE (mUn g a) (vUn h va) ca := ⟨fun η Q E q K P O L ρ S hK w r => by
  refine Out.bind (ha.ok η _ E q K P O L ρ S (by omega) w r) (by omega) fun x u P1 S1 s1 w1 v1 q1 => ?_
  exact (hg.ok _ _ q1 _ _ _ _ _ w1 v1).out⟩
instance : SA mNil vNil 0 := ⟨fun η Q E q K P O L ρ S hK w r => Out.ok (R := Rs) w .nil q⟩
instance {a : M D} {m : M (List D)} {va : VT U} {vm : VT (List U)} [ha : SE a va ca] [hb : SA m vm cb] : SA (mCons a m) (vCons va vm) (ca + cb) := ⟨fun η Q E q K P O L ρ S hK w r => by
  refine Out.bind (ha.ok η _ E q K P O L ρ S (by omega) w r) (by omega) fun x u P1 S1 s1 w1 v1 q1 => ?_
  refine Out.bind (hb.ok η _ E q1 _ P1 O L ρ S1 (by omega) w1 (r.step s1)) (by omega) fun y t P2 S2 s2 w2 v2 q2 => ?_
  exact Out.ok (R := Rs) (w2.le (by omega)) (.cons (v1.step s2) v2) q2⟩
instance {f : List D → Store → Res D} {h : VFT} {a : M (List D)} {va : VT (List U)} [hg : SF f h cb] [ha : SA a va ca] : SE (mApp f a) (vApp h va) (ca + cb) := ⟨fun η Q E q K P O L ρ S hK w r => by
  refine Out.bind (ha.ok η _ E q K P O L ρ S (by omega) w r) (by omega) fun x u P1 S1 s1 w1 v1 q1 => ?_
  exact (hg.ok _ _ _ q1 _ _ _ _ _ (by omega) w1 v1).le (by omega)⟩
def vFN (h : VNT) : VFT := fun xs Q _ => h xs Q
instance {g : List D → Store → Res D} {h : VNT} [hg : SN g h] : SF g (vFN h) 0 := ⟨fun xs Q E q K P X S ds hK w v => (hg.ok xs Q q K P X S ds w v).out⟩
instance {a : M D} {va : VT U} [ha : SE a va ca] : ST (mTru a) (vTru va) ca := ⟨fun η Q E q K P O L ρ S hK w r => by
  refine Out.bind (ha.ok η _ E q K P O L ρ S (by omega) w r) (by omega) fun x u P1 S1 s1 w1 v1 q1 => ?_
  cases u with
  | non => rw [v1.non_inv]; exact Out.ok (R := RB) w1 rfl q1
  | bl b => rw [v1.bl_inv]; exact Out.ok (R := RB) w1 rfl q1
  | int b => rw [v1.int_inv]; exact Out.ok (R := RB) w1 rfl q1
  | tup us =>
    obtain ⟨ds, rfl, hv⟩ := v1.tup_inv
    have e : us.isEmpty = ds.isEmpty := by cases hv <;> rfl
    exact Out.ok (R := RB) (b := !us.isEmpty) w1 (by rw [e]) q1
  | lst us =>
    obtain ⟨i, ds, rfl, _, _, e1, hv⟩ := v1.lst_inv
    have e : us.isEmpty = ds.isEmpty := by cases hv <;> rfl
    have eg : gTru (.ref i) S1 = some (!ds.isEmpty) := by unfold gTru; simp only [e1]
    rw [eg]
    exact Out.ok (R := RB) (b := !us.isEmpty) w1 (by rw [e]) q1
  | _ => exact q1.elim⟩
instance {a : M D} {va : VT U} [ha : SE a va ca] : ST (mTst a) (vTst va) ca := ⟨fun η Q E q K P O L ρ S hK w r => by
  refine Out.bind (ha.ok η _ E q K P O L ρ S (by omega) w r) (by omega) fun x u P1 S1 s1 w1 v1 q1 => ?_
  cases u with
  | bl b => rw [v1.bl_inv]; exact Out.ok (R := RB) w1 rfl q1
  | _ => exact q1.elim⟩
instance {a b : M Bool} {va vb : VT Bool} [ha : ST a va ca] [hb : ST b vb cb] : ST (mAnd a b) (vAnd va vb) (ca + cb) := ⟨fun η Q E q K P O L ρ S hK w r => by
  refine Out.bind (ha.ok η _ E q K P O L ρ S (by omega) w r) (by omega) fun x u P1 S1 s1 w1 v1 q1 => ?_
  cases v1
  cases x
  · exact Out.ok (R := RB) (w1.le (by omega)) rfl q1
  · exact (hb.ok η _ E q1 _ P1 O L ρ S1 (by omega) w1 (r.step s1)).le (by omega)⟩
instance {a b : M Bool} {va vb : VT Bool} [ha : ST a va ca] [hb : ST b vb cb] : ST (mOr a b) (vOr va vb) (ca + cb) := ⟨fun η Q E q K P O L ρ S hK w r => by
  refine Out.bind (ha.ok η _ E q K P O L ρ S (by omega) w r) (by omega) fun x u P1 S1 s1 w1 v1 q1 => ?_
  cases v1
  cases x
  · exact (hb.ok η _ E q1 _ P1 O L ρ S1 (by omega) w1 (r.step s1)).le (by omega)
  · exact Out.ok (R := RB) (w1.le (by omega)) rfl q1⟩
instance {a : M Bool} {va : VT Bool} [ha : ST a va ca] : ST (mNot a) (vNot va) ca := ⟨fun η Q E q K P O L ρ S hK w r => by
  refine Out.bind (ha.ok η _ E q K P O L ρ S (by omega) w r) (by omega) fun x u P1 S1 s1 w1 v1 q1 => ?_
  cases v1
  exact Out.ok (R := RB) w1 rfl q1⟩
instance {a b : M D} {va vb : VT U} [ha : SE a va ca] [hb : SE b vb cb] : SE (mAndV a b) (vAndV va vb) (ca + cb) := ⟨fun η Q E q K P O L ρ S hK w r => by
  refine Out.bind (ha.ok η _ E q K P O L ρ S (by omega) w r) (by omega) fun x u P1 S1 s1 w1 v1 q1 => ?_
  cases u with
  | bl t =>
    rw [v1.bl_inv]
    cases t
    · exact Out.ok (w1.le (by omega)) (.bl _) q1
    · exact (hb.ok η _ E q1 _ P1 O L ρ S1 (by omega) w1 (r.step s1)).le (by omega)
  | _ => exact q1.elim⟩
instance {a b : M D} {va vb : VT U} [ha : SE a va ca] [hb : SE b vb cb] : SE (mOrV a b) (vOrV va vb) (ca + cb) := ⟨fun η Q E q K P O L ρ S hK w r => by
  refine Out.bind (ha.ok η _ E q K P O L ρ S (by omega) w r) (by omega) fun x u P1 S1 s1 w1 v1 q1 => ?_
  cases u with
  | bl t =>
    rw [v1.bl_inv]
    cases t
    · exact (hb.ok η _ E q1 _ P1 O L ρ S1 (by omega) w1 (r.step s1)).le (by omega)
    · exact Out.ok (w1.le (by omega)) (.bl _) q1
  | _ => exact q1.elim⟩
instance {a : M D} {va : VT U} [ha : SE a va ca] : SE (mNotV a) (vNotV va) ca := ⟨fun η Q E q K P O L ρ S hK w r => by
  refine Out.bind (ha.ok η _ E q K P O L ρ S (by omega) w r) (by omega) fun x u P1 S1 s1 w1 v1 q1 => ?_
  cases u with
  | bl t => rw [v1.bl_inv]; exact Out.ok w1 (.bl _) q1
  | _ => exact q1.elim⟩
instance {c : M Bool} {a b : M D} {vc : VT Bool} {va vb : VT U} [hc : ST c vc cc] [ha : SE a va ca] [hb : SE b vb cb] : SE (mIf c a b) (vIf vc va vb) (cc + (ca + cb)) := ⟨fun η Q E q K P O L ρ S hK w r => by
  refine Out.bind (hc.ok η _ E q K P O L ρ S (by omega) w r) (by omega) fun x u P1 S1 s1 w1 v1 q1 => ?_
  cases v1
  cases x
  · exact (hb.ok η _ E q1 _ P1 O L ρ S1 (by omega) w1 (r.step s1)).le (by omega)
  · exact (ha.ok η _ E q1 _ P1 O L ρ S1 (by omega) w1 (r.step s1)).le (by omega)⟩
instance {g g' : D → D → Store → Res D} {h h' : V2T} {a b c : M D} {va vb vc : VT U} [hg : S2 g h] [hg' : S2 g' h'] [ha : SE a va ca] [hb : SE b vb cb] [hc : SE c vc cc] : SE (mChain g g' a b c) (vChain h h' va vb vc) (ca + cb + cc) := ⟨fun η Q E q K P O L ρ S hK w r => by
  refine Out.bind (ha.ok η _ E q K P O L ρ S (by omega) w r) (by omega) fun x u P1 S1 s1 w1 v1 q1 => ?_
  refine Out.bind (hb.ok η _ E q1 _ P1 O L ρ S1 (by omega) w1 (r.step s1)) (by omega) fun y t P2 S2 s2 w2 v2 q2 => ?_
  refine Out.bind (hg.ok _ _ _ q2 _ _ _ _ _ _ w2 (v1.step s2) v2).out (by omega) fun z k P3 S3 s3 w3 v3 q3 => ?_
  cases k with
  | bl t =>
    rw [v3.bl_inv]
    cases t
    · exact Out.ok (w3.le (by omega)) (.bl _) q3
    · refine Out.bind (hc.ok η _ E q3 _ P3 O L ρ S3 (by omega) w3 ((r.step s1).step (s2.trans s3 (fun _ h => by cases h)))) (by omega) fun z k P4 S4 s4 w4 v4 q4 => ?_
      exact ((hg'.ok _ _ _ q4 _ _ _ _ _ _ w4 ((v2.step s3).step s4) v4).out).le (by omega)
  | _ => exact q3.elim⟩
instance {m : M (List D)} {v : VT (List U)} [ha : SA m v ca] : SE (mBox m) (vBox v) ca := ⟨fun η Q E q K P O L ρ S hK w r => by
  refine Out.bind (ha.ok η _ E q K P O L ρ S (by omega) w r) (by omega) fun x u P1 S1 s1 w1 v1 q1 => ?_
  exact (go_lst w1 v1 q1).out⟩
instance {g : List D → Store → Res D} {h : VNT} {m : M (List D)} {v : VT (List U)} [hg : SN g h] [ha : SA m v ca] : SE (mL g m) (vL h v) ca := ⟨fun η Q E q K P O L ρ S hK w r => by
  refine Out.bind (ha.ok η _ E q K P O L ρ S (by omega) w r) (by omega) fun x u P1 S1 s1 w1 v1 q1 => ?_
  exact (hg.ok _ _ q1 _ _ _ _ _ w1 v1).out⟩
end
end MI

set_option Elab.async false
set_option linter.all false
set_option maxRecDepth 100000
set_option maxHeartbeats 1000000
/-! # Texts as what they do with values: operators, built-ins -/
namespace MI
open PySem PySem.Spec PyProof.Rows L2
def vSub : V2T := fun x y Q => match x, y with
  | .int i, .int j => Q (.int (i - j))
  | _, _ => False
def vLt : V2T := fun x y Q => match x, y with
  | .int i, .int j => Q (.bl (decide (i < j)))
  | _, _ => False
def vLe : V2T := fun x y Q => match x, y with
  | .int i, .int j => Q (.bl (decide (i ≤ j)))
  | _, _ => False
def vGt : V2T := fun x y Q => match x, y with
  | .int i, .int j => Q (.bl (decide (j < i)))
  | _, _ => False
def vGe : V2T := fun x y Q => match x, y with
  | .int i, .int j => Q (.bl (decide (j ≤ i)))
  | _, _ => False
def vDiv : V2T := fun x y Q => match x, y with
  | .int i, .int j => cDiv i j = true ∧ Q (.int (i.fdiv j))
  | _, _ => False
def vMod : V2T := fun x y Q => match x, y with
  | .int i, .int j => cMod i j = true ∧ Q (.int (i.fmod j))
  | _, _ => False
def vPow : V2T := fun x y Q => match x, y with
  | .int i, .int j => cPow i j = true ∧ Q (.int (i ^ j.toNat))
  | _, _ => False
def vShl : V2T := fun x y Q => match x, y with
  | .int i, .int j => cShl i j = true ∧ Q (.int (i * 2 ^ j.toNat))
  | _, _ => False
def vMul : V2T := fun x y Q => match x, y with
  | .int i, .int j => mulOk i j = true ∧ Q (.int (i * j))
  | .lst xs, .int k => (xs.length * k.toNat ≤ 16777216 ∧ k.natAbs < 2 ^ 60) ∧ Q (.lst (List.replicate k.toNat xs).flatten)
  | .tup xs, .int k => ((xs.length ≠ 0 ∧ xs.length ≤ 1000) ∧ 2 ≤ k ∧ k ≤ 1000) ∧ Q (.tup (List.replicate k.toNat xs).flatten)
  | _, _ => False
def vAdd : V2T := fun x y Q => match x, y with
  | .int i, .int j => Q (.int (i + j))
  | .str i, .str j => i.length + j.length ≤ 16777216 ∧ Q (.str (i ++ j))
  | .tup xs, .tup ys => xs.length + ys.length ≤ 16777216 ∧ Q (.tup (xs ++ ys))
  | .lst xs, .lst ys => xs.length + ys.length ≤ 16777216 ∧ Q (.lst (xs ++ ys))
  | _, _ => False
mutual
def uPy : Nat → U → Option PyData
  | 0, _ => none
  | _ + 1, .non => some .none
  | _ + 1, .bl b => some (.bool b)
  | _ + 1, .int i => some (.int i)
  | _ + 1, .str x => some (.str x)
  | n + 1, .tup xs => (uPys n xs).map .tuple
  | n + 1, .lst xs => (uPys n xs).map .list
  | n + 1, .fro xs => (uPys n xs).map .list
  | _ + 1, _ => none
def uPys : Nat → List U → Option (List PyData)
  | 0, _ => none
  | _ + 1, [] => some []
  | n + 1, x :: xs => match uPy n x, uPys n xs with
    | some p, some ps => some (p :: ps)
    | _, _ => none
end
section
variable {P X : List Nat} {S : Store}
mutual
theorem uPy_toPy : ∀ (n : Nat) (d : D) (u : U) (p : PyData), Vw P X S d u → uPy n u = some p → toPy S n d = some p
  | 0, _, _, _, _, h => by simp [uPy] at h
  | n + 1, d, .non, p, v, h => by rw [v.non_inv]; simpa [uPy, toPy] using h
  | n + 1, d, .bl b, p, v, h => by rw [v.bl_inv]; simpa [uPy, toPy] using h
  | n + 1, d, .int b, p, v, h => by rw [v.int_inv]; simpa [uPy, toPy] using h
  | n + 1, d, .str b, p, v, h => by rw [v.str_inv]; simpa [uPy, toPy] using h
  | n + 1, d, .tup us, p, v, h => by
    obtain ⟨ds, rfl, hv⟩ := v.tup_inv
    simp only [uPy, Option.map_eq_some_iff] at h
    obtain ⟨ps, h1, rfl⟩ := h
    simp only [toPy, uPys_toPys n ds us ps hv h1, Option.map_some]
  | n + 1, d, .lst us, p, v, h => by
    obtain ⟨i, ds, rfl, _, _, e, hv⟩ := v.lst_inv
    simp only [uPy, Option.map_eq_some_iff] at h
    obtain ⟨ps, h1, rfl⟩ := h
    simp only [toPy, e, uPys_toPys n ds us ps hv h1, Option.map_some]
  | n + 1, d, .fro us, p, v, h => by
    obtain ⟨ds, rfl, hv⟩ := v.fro_inv
    simp only [uPy, Option.map_eq_some_iff] at h
    obtain ⟨ps, h1, rfl⟩ := h
    simp only [toPy, uPys_toPys n ds us ps hv h1, Option.map_some]
  | n + 1, d, .dct _ _, p, v, h => by simp [uPy] at h
  | n + 1, d, .exc _ _, p, v, h => by simp [uPy] at h
  | n + 1, d, .jug, p, v, h => by simp [uPy] at h
theorem uPys_toPys : ∀ (n : Nat) (d : List D) (u : List U) (p : List PyData), Vws P X S d u → uPys n u = some p → toPys S n d = some p
  | 0, _, _, _, _, h => by simp [uPys] at h
  | n + 1, d, [], p, v, h => by cases v; simpa [uPys, toPys] using h
  | n + 1, d, u :: us, p, v, h => by
    cases v with
    | @cons d0 _ ds _ v1 v2 =>
      simp only [uPys] at h
      cases h1 : uPy n u with
      | none => rw [h1] at h; cases h
      | some p1 =>
        cases h2 : uPys n us with
        | none => rw [h1, h2] at h; cases h
        | some ps =>
          rw [h1, h2] at h
          simp only [toPys, uPy_toPy n d0 u p1 v1 h1, uPys_toPys n ds us ps v2 h2]
          exact h
end
end
def vEqO (neg : Bool) : V2T := fun x y Q => match uPy fuelD x, uPy fuelD y with
  | some p, some q => (SeqAt.shaped p = true ∧ SeqAt.shaped q = true) ∧ Q (.bl (if neg then !PyData.eqv p q else PyData.eqv p q))
  | _, _ => False
def vEqB (neg : Bool) : V2T := fun x y Q => match x, y with
  | .str a, .str b => Q (.bl (if neg then !decide (a = b) else decide (a = b)))
  | .int a, .int b => Q (.bl (if neg then !decide (a = b) else decide (a = b)))
  | x, y => vEqO neg x y Q
abbrev vEq := vEqB false
abbrev vNe := vEqB true
def isNonU : U → Bool
  | .non => true
  | _ => false
def vIs (neg : Bool) : V2T := fun x y Q => match y with
  | .non => Q (.bl (isNonU x != neg))
  | .bl b => match x with
    | .bl a => Q (.bl ((a == b) != neg))
    | _ => False
  | _ => False
def vNeg : V1T := fun x Q => match x with
  | .int i => Q (.int (-i))
  | _ => False
def tyU : U → Option String
  | .non => some "NoneType"
  | .bl _ => some "bool"
  | .int _ => some "int"
  | .str _ => some "str"
  | .tup _ => some "tuple"
  | .lst _ => some "list"
  | .fro _ => some "list"
  | .dct _ _ => some "dict"
  | _ => none
def vIsTy (T : String) : V1T := fun x Q => match tyU x with
  | some t => Q (.bl (isTy t T))
  | none => False
def seqU : U → Option (List U)
  | .tup us => some us
  | .lst us => some us
  | .fro us => some us
  | _ => none
def vIx : V2T := fun x y Q => match y with
  | .int i => match seqU x with
    | some us => match L2.atI us i with
      | some u => Q u
      | none => False
    | none => False
  | _ => False
section
variable {K : Nat} {P X : List Nat} {S : Store} {Q : U → Prop}
theorem Vw.seq {d : D} {u : U} {us : List U} (v : Vw P X S d u) (h : seqU u = some us) : ∃ ds, seqOf d S = some ds ∧ Vws P X S ds us := by
  cases u with
  | tup xs => cases h; obtain ⟨ds, rfl, hv⟩ := v.tup_inv; exact ⟨ds, rfl, hv⟩
  | lst xs => cases h; obtain ⟨i, ds, rfl, _, _, e, hv⟩ := v.lst_inv; exact ⟨ds, by unfold seqOf; simp only [e], hv⟩
  | fro xs => cases h; obtain ⟨ds, rfl, hv⟩ := v.fro_inv; exact ⟨ds, rfl, hv⟩
  | _ => cases h
theorem Vws.atI {ds : List D} {us : List U} {i : Int} {u : U} (v : Vws P X S ds us) (h : L2.atI us i = some u) : ∃ d, L2.atI ds i = some d ∧ Vw P X S d u := by
  unfold L2.atI at h ⊢
  rw [v.length]
  cases e : ixN us.length i with
  | none => rw [e] at h; cases h
  | some j =>
    rw [e] at h
    obtain ⟨d, a, b⟩ := v.get (i := j) h
    exact ⟨d, a, b⟩
theorem go_int2 {C : Int → Int → Bool} {f : Int → Int → D} {i j : Int} {u : U} (w : Wd K P X S) (hc : C i j = true) (v : Vw P X S (f i j) u) (q : Q u) : GO K P X S (gInt2 C f (.int i) (.int j) S) Q := by
  unfold gInt2
  simp only [hc, if_true]
  exact go_same w v q
end
theorem s2_of {g : D → D → Store → Res D} {C : Int → Int → Bool} {f : Int → Int → D} {h : V2T} (hg : g = gInt2 C f) (hh : ∀ x y Q, h x y Q → ∃ i j, x = .int i ∧ y = .int j ∧ C i j = true ∧ ∃ u, (∀ P X S, Vw P X S (f i j) u) ∧ Q u) : S2 g h := ⟨fun x y Q q K P X S dx dy w v1 v2 => by
  obtain ⟨i, j, rfl, rfl, hc, u, hu, q⟩ := hh x y Q q
  rw [v1.int_inv, v2.int_inv, hg]
  exact go_int2 w hc (hu _ _ _) q⟩
instance : S2 gSub vSub := s2_of rfl fun x y Q q => by
  unfold vSub at q
  split at q
  · exact ⟨_, _, rfl, rfl, rfl, _, fun _ _ _ => .int _, q⟩
  · exact q.elim
instance : S2 gLt vLt := s2_of rfl fun x y Q q => by
  unfold vLt at q
  split at q
  · exact ⟨_, _, rfl, rfl, rfl, _, fun _ _ _ => .bl _, q⟩
  · exact q.elim
instance : S2 gLe vLe := s2_of rfl fun x y Q q => by
  unfold vLe at q
  split at q
  · exact ⟨_, _, rfl, rfl, rfl, _, fun _ _ _ => .bl _, q⟩
  · exact q.elim
instance : S2 gGt vGt := s2_of rfl fun x y Q q => by
  unfold vGt at q
  split at q
  · exact ⟨_, _, rfl, rfl, rfl, _, fun _ _ _ => .bl _, q⟩
  · exact q.elim
instance : S2 gGe vGe := s2_of rfl fun x y Q q => by
  unfold vGe at q
  split at q
  · exact ⟨_, _, rfl, rfl, rfl, _, fun _ _ _ => .bl _, q⟩
  · exact q.elim
instance : S2 gDiv vDiv := s2_of rfl fun x y Q q => by
  unfold vDiv at q
  split at q
  · exact ⟨_, _, rfl, rfl, q.1, _, fun _ _ _ => .int _, q.2⟩
  · exact q.elim
instance : S2 gMod vMod := s2_of rfl fun x y Q q => by
  unfold vMod at q
  split at q
  · exact ⟨_, _, rfl, rfl, q.1, _, fun _ _ _ => .int _, q.2⟩
  · exact q.elim
instance : S2 gPow vPow := s2_of rfl fun x y Q q => by
  unfold vPow at q
  split at q
  · exact ⟨_, _, rfl, rfl, q.1, _, fun _ _ _ => .int _, q.2⟩
  · exact q.elim
instance : S2 gShl vShl := s2_of rfl fun x y Q q => by
  unfold vShl at q
  split at q
  · exact ⟨_, _, rfl, rfl, q.1, _, fun _ _ _ => .int _, q.2⟩
  · exact q.elim
instance : S2 gMul vMul := ⟨fun x y Q q K P X S dx dy w v1 v2 => by
  unfold vMul at q
  split at q
  · rename_i i j
    rw [v1.int_inv, v2.int_inv]
    unfold gMul
    simp only [q.1, if_true]
    exact go_same w (.int _) q.2
  · rename_i us k
    obtain ⟨i, ds, rfl, _, _, e, hv⟩ := v1.lst_inv
    rw [v2.int_inv]
    unfold gMul
    simp only [e]
    rw [if_pos (by rw [hv.length]; exact q.1)]
    exact go_lst w (hv.rep _) q.2
  · rename_i us k
    obtain ⟨ds, rfl, hv⟩ := v1.tup_inv
    rw [v2.int_inv]
    unfold gMul
    dsimp only
    rw [if_pos (by rw [hv.length]; exact q.1)]
    exact go_same w (.tup (hv.rep _)) q.2
  · exact q.elim⟩
instance : S2 gAdd vAdd := ⟨fun x y Q q K P X S dx dy w v1 v2 => by
  unfold vAdd at q
  split at q
  · rw [v1.int_inv, v2.int_inv]
    exact go_same w (.int _) q
  · rw [v1.str_inv, v2.str_inv]
    unfold gAdd
    simp only [q.1, if_true]
    exact go_same w (.str _) q.2
  · obtain ⟨ds, rfl, hv⟩ := v1.tup_inv
    obtain ⟨es, rfl, hw⟩ := v2.tup_inv
    unfold gAdd
    dsimp only
    rw [if_pos (by rw [hv.length, hw.length]; exact q.1)]
    exact go_same w (.tup (hv.cat hw)) q.2
  · obtain ⟨i, ds, rfl, _, _, e, hv⟩ := v1.lst_inv
    obtain ⟨j, es, rfl, _, _, e2, hw⟩ := v2.lst_inv
    unfold gAdd
    simp only [e, e2]
    rw [if_pos (by rw [hv.length, hw.length]; exact q.1)]
    exact go_lst w (hv.cat hw) q.2
  · exact q.elim⟩
theorem shaped_int {i : Int} : SeqAt.shaped (.int i) = true := by simp [SeqAt.shaped, PyData.canLay0, PyData.depth]
theorem eqv_int {a b : Int} : PyData.eqv (.int a) (.int b) = decide (a = b) := by
  unfold PyData.eqv
  rfl
theorem gEqO_of {S : Store} {neg : Bool} {x y : D} {p q : PyData} (h1 : toPy S fuelD x = some p) (h2 : toPy S fuelD y = some q) (s : SeqAt.shaped p = true ∧ SeqAt.shaped q = true) : gEqO neg x y S = .ok (.bl (if neg then !PyData.eqv p q else PyData.eqv p q)) S := by
  unfold gEqO
  rw [h1, h2]
  exact if_pos s
instance {neg : Bool} : S2 (gEqB neg) (vEqB neg) := ⟨fun x y Q q K P X S dx dy w v1 v2 => by
  unfold vEqB at q
  split at q
  · rw [v1.str_inv, v2.str_inv]
    exact go_same w (.bl _) q
  · rename_i a b
    rw [v1.int_inv, v2.int_inv]
    have e : gEqB neg (.int a) (.int b) S = .ok (.bl (if neg then !decide (a = b) else decide (a = b))) S := by
      show gEqO neg (.int a) (.int b) S = _
      rw [gEqO_of (p := .int a) (q := .int b) rfl rfl ⟨shaped_int, shaped_int⟩, eqv_int]
    rw [e]
    exact go_same w (.bl _) q
  · rename_i n1 n2
    unfold vEqO at q
    split at q
    · rename_i p p' h1 h2
      have e1 := uPy_toPy _ _ _ _ v1 h1
      have e2 := uPy_toPy _ _ _ _ v2 h2
      have e : gEqB neg dx dy S = gEqO neg dx dy S := by
        unfold gEqB
        split
        · cases v1; cases v2; exact (n1 _ _ rfl rfl).elim
        · rfl
      rw [e, gEqO_of e1 e2 q.1]
      exact go_same w (.bl _) q.2
    · exact q.elim⟩
theorem Vw.isNon {P X : List Nat} {S : Store} {d : D} {u : U} (v : Vw P X S d u) : isNonD d = isNonU u := by cases v <;> rfl
instance {neg : Bool} : S2 (gIs neg) (vIs neg) := ⟨fun x y Q q K P X S dx dy w v1 v2 => by
  unfold vIs at q
  split at q
  · rw [v2.non_inv]
    unfold gIs
    dsimp only
    rw [v1.isNon]
    exact go_same w (.bl _) q
  · split at q
    · rw [v2.bl_inv, v1.bl_inv]
      exact go_same w (.bl _) q
    · exact q.elim
  · exact q.elim⟩
instance : S1 gNeg vNeg := ⟨fun x Q q K P X S dx w v => by
  unfold vNeg at q
  split at q
  · rw [v.int_inv]; exact go_same w (.int _) q
  · exact q.elim⟩
theorem Vw.ty {P X : List Nat} {S : Store} {d : D} {u : U} {t : String} (v : Vw P X S d u) (h : tyU u = some t) : tyName d S = some t := by
  cases v with
  | lst hp hx e h2 => unfold tyName; simp only [e]; exact h
  | dct hp hx e h2 => unfold tyName; simp only [e]; exact h
  | exc hp hx e h2 => cases h
  | jug => cases h
  | _ => exact h
instance {T : String} : S1 (gIsTy T) (vIsTy T) := ⟨fun x Q q K P X S dx w v => by
  unfold vIsTy at q
  split at q
  · rename_i t ht
    unfold gIsTy
    rw [v.ty ht]
    exact go_same w (.bl _) q
  · exact q.elim⟩
instance : S2 gIx vIx := ⟨fun x y Q q K P X S dx dy w v1 v2 => by
  unfold vIx at q
  split at q
  · rename_i i
    split at q
    · rename_i us hs
      split at q
      · rename_i u hu
        obtain ⟨ds, e, hv⟩ := v1.seq hs
        obtain ⟨d, e2, v⟩ := hv.atI hu
        rw [v2.int_inv]
        have e3 : gIx dx (.int i) S = .ok d S := by
          unfold gIx
          dsimp only
          split
          · cases v1; cases hs
          · simp only [e, e2]
        rw [e3]
        exact go_same w v q
      · exact q.elim
    · exact q.elim
  · exact q.elim⟩
/-! ### built-ins by their arguments -/
def vTup : VNT := fun xs Q => xs.length ≤ 16777216 ∧ Q (.tup xs)
def vLst : VNT := fun xs Q => xs.length ≤ 16777216 ∧ Q (.lst xs)
def vLen : VNT := fun xs Q => match xs with
  | [u] => match seqU u with
    | some us => Q (.int us.length)
    | none => False
  | _ => False
def vList : VNT := fun xs Q => match xs with
  | [u] => match seqU u with
    | some us => Q (.lst us)
    | none => False
  | _ => False
def vTuple : VNT := fun xs Q => match xs with
  | [u] => match seqU u with
    | some us => Q (.tup us)
    | none => False
  | _ => False
def vInt : VNT := fun xs Q => match xs with
  | [.int i] => Q (.int i)
  | [.bl b] => Q (.int (if b then 1 else 0))
  | _ => False
def vAbs : VNT := fun xs Q => match xs with
  | [.int i] => Q (.int (if i < 0 then -i else i))
  | _ => False
def vMax2 : VNT := fun xs Q => match xs with
  | [.int i, .int j] => Q (.int (if j > i then j else i))
  | _ => False
def vMin2 : VNT := fun xs Q => match xs with
  | [.int i, .int j] => Q (.int (if j < i then j else i))
  | _ => False
def vGcd : VNT := fun xs Q => match xs with
  | [.int a, .int b] => Q (.int ((Nat.gcd a.natAbs b.natAbs : Nat) : Int))
  | _ => False
def vLcm : VNT := fun xs Q => match xs with
  | [.int a, .int b] => cLcm a b = true ∧ Q (.int ((Nat.lcm a.natAbs b.natAbs : Nat) : Int))
  | _ => False
def boolsU : List U → Option (List Bool)
  | [] => some []
  | .bl b :: r => (boolsU r).map (b :: ·)
  | _ => none
def intsU : List U → Option (List Int)
  | [] => some []
  | .int b :: r => (intsU r).map (b :: ·)
  | _ => none
def vAll : VNT := fun xs Q => match boolsU xs with
  | some bs => Q (.bl (bs.all id))
  | none => False
def vAny : VNT := fun xs Q => match boolsU xs with
  | some bs => Q (.bl (bs.any id))
  | none => False
def vSum : VNT := fun xs Q => match intsU xs with
  | some ns => Q (.int ns.sum)
  | none => False
def vTupL : VNT := fun xs Q => Q (.tup xs)
def vListL : VNT := fun xs Q => Q (.lst xs)
def vLenL : VNT := fun xs Q => Q (.int xs.length)
def vSq (h : VNT) : VNT := fun xs Q => match xs with
  | [.lst us] => h us Q
  | _ => False
def vRepr : VNT := fun xs Q => match xs with
  | [u] => match uPy fuelD u with
    | some p => shows p = true ∧ Q (.str p.shown)
    | none => False
  | _ => False
section
variable {P X : List Nat} {S : Store}
theorem Vws.one {ds : List D} {u : U} (v : Vws P X S ds [u]) : ∃ d, ds = [d] ∧ Vw P X S d u := by
  cases v with
  | cons h r => cases r; exact ⟨_, rfl, h⟩
theorem Vws.two {ds : List D} {u t : U} (v : Vws P X S ds [u, t]) : ∃ d e, ds = [d, e] ∧ Vw P X S d u ∧ Vw P X S e t := by
  cases v with
  | cons h r => cases r with | cons h2 r => cases r; exact ⟨_, _, rfl, h, h2⟩
theorem boolsU_of : ∀ {ds : List D} {us : List U} {bs : List Bool}, Vws P X S ds us → boolsU us = some bs → boolsOf ds = some bs
  | _, [], bs, v, h => by cases v; exact h
  | _, u :: us, bs, v, h => by
    cases v with
    | cons h1 r =>
      cases u with
      | bl b =>
        rw [h1.bl_inv]
        simp only [boolsU, Option.map_eq_some_iff] at h
        obtain ⟨cs, hc, rfl⟩ := h
        simp only [boolsOf, boolsU_of r hc, Option.map_some]
      | _ => cases h
theorem intsU_of : ∀ {ds : List D} {us : List U} {bs : List Int}, Vws P X S ds us → intsU us = some bs → intsOf ds = some bs
  | _, [], bs, v, h => by cases v; exact h
  | _, u :: us, bs, v, h => by
    cases v with
    | cons h1 r =>
      cases u with
      | int b =>
        rw [h1.int_inv]
        simp only [intsU, Option.map_eq_some_iff] at h
        obtain ⟨cs, hc, rfl⟩ := h
        simp only [intsOf, intsU_of r hc, Option.map_some]
      | _ => cases h
end
instance : SN gTup vTup := ⟨fun xs Q q K P X S ds w v => by
  unfold gTup
  rw [if_pos (by rw [v.length]; exact q.1)]
  exact go_same w (.tup v) q.2⟩
instance : SN gLst vLst := ⟨fun xs Q q K P X S ds w v => by
  unfold gLst
  rw [if_pos (by rw [v.length]; exact q.1)]
  exact go_lst w v q.2⟩
instance : SN gTupL vTupL := ⟨fun xs Q q K P X S ds w v => go_same w (.tup v) q⟩
instance : SN gListL vListL := ⟨fun xs Q q K P X S ds w v => go_lst w v q⟩
instance : SN gLenL vLenL := ⟨fun xs Q q K P X S ds w v => by
  unfold gLenL
  rw [v.length]
  exact go_same w (.int _) q⟩
instance : SN gLen vLen := ⟨fun xs Q q K P X S ds w v => by
  unfold vLen at q
  split at q
  · split at q
    · rename_i u us hs
      obtain ⟨d, rfl, v1⟩ := v.one
      obtain ⟨ds, e, hv⟩ := v1.seq hs
      have e2 : gLen [d] S = .ok (.int ds.length) S := by
        unfold gLen
        split
        · rename_i hd; cases hd; cases v1; cases hs
        · rename_i hd; cases hd; simp only [e]
        · rename_i h1 h2; exact (h2 _ rfl).elim
      rw [e2, hv.length]
      exact go_same w (.int _) q
    · exact q.elim
  · exact q.elim⟩
instance : SN gList vList := ⟨fun xs Q q K P X S ds w v => by
  unfold vList at q
  split at q
  · split at q
    · rename_i u us hs
      obtain ⟨d, rfl, v1⟩ := v.one
      obtain ⟨ds, e, hv⟩ := v1.seq hs
      unfold gList
      simp only [e]
      exact go_lst w hv q
    · exact q.elim
  · exact q.elim⟩
instance : SN gTuple vTuple := ⟨fun xs Q q K P X S ds w v => by
  unfold vTuple at q
  split at q
  · split at q
    · rename_i u us hs
      obtain ⟨d, rfl, v1⟩ := v.one
      obtain ⟨ds, e, hv⟩ := v1.seq hs
      unfold gTuple
      simp only [e]
      exact go_same w (.tup hv) q
    · exact q.elim
  · exact q.elim⟩
instance : SN gInt vInt := ⟨fun xs Q q K P X S ds w v => by
  unfold vInt at q
  split at q
  · obtain ⟨d, rfl, v1⟩ := v.one
    rw [v1.int_inv]
    exact go_same w (.int _) q
  · obtain ⟨d, rfl, v1⟩ := v.one
    rw [v1.bl_inv]
    exact go_same w (.int _) q
  · exact q.elim⟩
instance : SN gAbs vAbs := ⟨fun xs Q q K P X S ds w v => by
  unfold vAbs at q
  split at q
  · obtain ⟨d, rfl, v1⟩ := v.one
    rw [v1.int_inv]
    exact go_same w (.int _) q
  · exact q.elim⟩
instance : SN gMax2 vMax2 := ⟨fun xs Q q K P X S ds w v => by
  unfold vMax2 at q
  split at q
  · obtain ⟨d, e, rfl, v1, v2⟩ := v.two
    rw [v1.int_inv, v2.int_inv]
    exact go_same w (.int _) q
  · exact q.elim⟩
instance : SN gMin2 vMin2 := ⟨fun xs Q q K P X S ds w v => by
  unfold vMin2 at q
  split at q
  · obtain ⟨d, e, rfl, v1, v2⟩ := v.two
    rw [v1.int_inv, v2.int_inv]
    exact go_same w (.int _) q
  · exact q.elim⟩
instance : SN gGcd vGcd := ⟨fun xs Q q K P X S ds w v => by
  unfold vGcd at q
  split at q
  · obtain ⟨d, e, rfl, v1, v2⟩ := v.two
    rw [v1.int_inv, v2.int_inv]
    exact go_same w (.int _) q
  · exact q.elim⟩
instance : SN gLcm vLcm := ⟨fun xs Q q K P X S ds w v => by
  unfold vLcm at q
  split at q
  · obtain ⟨d, e, rfl, v1, v2⟩ := v.two
    rw [v1.int_inv, v2.int_inv]
    unfold gLcm
    simp only [q.1, if_true]
    exact go_same w (.int _) q.2
  · exact q.elim⟩
instance : SN gAll vAll := ⟨fun xs Q q K P X S ds w v => by
  unfold vAll at q
  split at q
  · rename_i bs h
    unfold gAll
    rw [boolsU_of v h]
    exact go_same w (.bl _) q
  · exact q.elim⟩
instance : SN gAny vAny := ⟨fun xs Q q K P X S ds w v => by
  unfold vAny at q
  split at q
  · rename_i bs h
    unfold gAny
    rw [boolsU_of v h]
    exact go_same w (.bl _) q
  · exact q.elim⟩
instance : SN gSum vSum := ⟨fun xs Q q K P X S ds w v => by
  unfold vSum at q
  split at q
  · rename_i bs h
    unfold gSum
    rw [intsU_of v h]
    exact go_same w (.int _) q
  · exact q.elim⟩
instance {g : List D → Store → Res D} {h : VNT} [hg : SN g h] : SN (gSq g) (vSq h) := ⟨fun xs Q q K P X S ds w v => by
  unfold vSq at q
  split at q
  · obtain ⟨d, rfl, v1⟩ := v.one
    obtain ⟨i, ds, rfl, _, _, e, hv⟩ := v1.lst_inv
    unfold gSq seqOf
    simp only [e]
    exact hg.ok _ _ q _ _ _ _ _ w hv
  · exact q.elim⟩
instance : SN gRepr vRepr := ⟨fun xs Q q K P X S ds w v => by
  unfold vRepr at q
  split at q
  · split at q
    · rename_i u p h
      obtain ⟨d, rfl, v1⟩ := v.one
      have e : reprP S d = some p := by
        unfold reprP
        rw [uPy_toPy _ _ _ _ v1 h]
      unfold gRepr
      simp only [e, q.1, if_true]
      exact go_same w (.str _) q.2
    · exact q.elim
  · exact q.elim⟩
end MI

set_option Elab.async false
set_option linter.all false
set_option maxRecDepth 100000
set_option maxHeartbeats 1000000
/-! # Texts as what they do with values: what is walked, comprehensions, slices, errors -/
namespace MI
open PySem PySem.Spec PyProof.Rows L2
section
variable {ca cb cc cd ce : Nat}
def vSrc (a : VT U) : VT (List U) := fun η Q E => a η (fun x => match seqU x with
  | some us => Q us
  | none => False) E
def rngU (lo : Int) (n : Nat) : List U := (List.range n).map fun (i : Nat) => U.int (lo + (i : Int))
def rngCU (lo c : Int) (n : Nat) : List U := (List.range n).map fun (i : Nat) => U.int (lo + (i : Int) * c)
def vRng1 (a : VT U) : VT (List U) := fun η Q E => a η (fun x => match x with
  | .int j => small62 j = true ∧ Q (rngU 0 j.toNat)
  | _ => False) E
def vRng2 (a b : VT U) : VT (List U) := fun η Q E => a η (fun x => b η (fun y => match x, y with
  | .int i, .int j => (small62 i = true ∧ small62 j = true) ∧ Q (rngU i (j - i).toNat)
  | _, _ => False) E) E
def vRng3 (a b c : VT U) : VT (List U) := fun η Q E => a η (fun x => b η (fun y => c η (fun z => match x, y, z with
  | .int i, .int j, .int c => ((c ≠ 0 ∧ c.natAbs < 1073741824) ∧ Builtin.Range.small i j c = true ∧ 0 ≤ Builtin.Range.rangeSize i j c) ∧ Q (rngCU i c (Builtin.Range.rangeSize i j c).toNat)
  | _, _, _ => False) E) E) E
def zipU (xs ys : List U) : List U := List.zipWith (fun x y => U.tup [x, y]) xs ys
def vZip (a b : VT U) : VT (List U) := fun η Q E => a η (fun x => b η (fun y => match x, y with
  | .tup xs, .tup ys => Q (zipU xs ys)
  | .lst xs, .lst ys => Q (zipU xs ys)
  | _, _ => False) E) E
theorem vws_ints {P X : List Nat} {S : Store} {f : Nat → Int} : ∀ l : List Nat, Vws P X S (l.map fun i => D.int (f i)) (l.map fun i => U.int (f i))
  | [] => .nil
  | i :: l => .cons (.int _) (vws_ints l)
theorem Vws.zip {P X : List Nat} {S : Store} : ∀ {ds es : List D} {us vs : List U}, Vws P X S ds us → Vws P X S es vs → Vws P X S (zipD ds es) (zipU us vs)
  | _, _, _, _, .nil, _ => .nil
  | _, _, _, _, .cons _ _, .nil => .nil
  | _, _, _, _, .cons h r, .cons h2 r2 => .cons (.tup (.cons h (.cons h2 .nil))) (Vws.zip r r2)
theorem Out.okI {K : Nat} {P X : List Nat} {S : Store} {src : Src} {us : List U} {Q : List U → Prop} {E : Str → U → Prop} (w : Wd K P X S) (v : Vws P X S src.items us) (h : ∀ p ∈ src.cells, p.1 ∉ P ∧ p.1 ∉ X ∧ S[p.1]? = some (.lst p.2)) (q : Q us) : Out RI K P X S (.ok src S) Q E := Out.ok (R := RI) w ⟨v, h⟩ q
instance {a : M D} {va : VT U} [ha : SE a va ca] : SI (mSrc a) (vSrc va) ca := ⟨fun η Q E q K P O L ρ S hK w r => by
  refine Out.bind (ha.ok η _ E q K P O L ρ S (by omega) w r) (by omega) fun x u P1 S1 s1 w1 v1 q1 => ?_
  cases u with
  | tup us =>
    obtain ⟨ds, rfl, hv⟩ := v1.tup_inv
    exact Out.okI (src := ⟨[], ds⟩) w1 hv (fun p hp => by cases hp) q1
  | lst us =>
    obtain ⟨i, ds, rfl, h1, h2, e, hv⟩ := v1.lst_inv
    unfold srcOf
    simp only [e]
    exact Out.okI (src := ⟨[(i, ds)], ds⟩) w1 hv (fun p hp => by
      rw [List.mem_singleton] at hp
      subst hp
      exact ⟨h1, h2, e⟩) q1
  | fro us =>
    obtain ⟨ds, rfl, hv⟩ := v1.fro_inv
    exact Out.okI (src := ⟨[], ds⟩) w1 hv (fun p hp => by cases hp) q1
  | _ => exact q1.elim⟩
instance {a : M D} {va : VT U} [ha : SE a va ca] : SI (mRng1 a) (vRng1 va) ca := ⟨fun η Q E q K P O L ρ S hK w r => by
  refine Out.bind (ha.ok η _ E q K P O L ρ S (by omega) w r) (by omega) fun x u P1 S1 s1 w1 v1 q1 => ?_
  cases u with
  | int i =>
    rw [v1.int_inv]
    unfold gRng1
    simp only [q1.1, if_true]
    exact Out.okI (src := ⟨[], rng 0 i.toNat⟩) w1 (vws_ints _) (fun p hp => by cases hp) q1.2
  | _ => exact q1.elim⟩
instance {a b : M D} {va vb : VT U} [ha : SE a va ca] [hb : SE b vb cb] : SI (mRng2 a b) (vRng2 va vb) (ca + cb) := ⟨fun η Q E q K P O L ρ S hK w r => by
  refine Out.bind (ha.ok η _ E q K P O L ρ S (by omega) w r) (by omega) fun x u P1 S1 s1 w1 v1 q1 => ?_
  refine Out.bind (hb.ok η _ E q1 _ P1 O L ρ S1 (by omega) w1 (r.step s1)) (by omega) fun y t P2 S2 s2 w2 v2 q2 => ?_
  cases u with
  | int i => cases t with
    | int j =>
      rw [v1.int_inv, v2.int_inv]
      unfold gRng2
      dsimp only
      rw [if_pos q2.1]
      exact Out.okI (src := ⟨[], rng i (j - i).toNat⟩) (w2.le (by omega)) (vws_ints _) (fun p hp => by cases hp) q2.2
    | _ => exact q2.elim
  | _ => exact q2.elim⟩
instance {a b c : M D} {va vb vc : VT U} [ha : SE a va ca] [hb : SE b vb cb] [hc : SE c vc cc] : SI (mRng3 a b c) (vRng3 va vb vc) (ca + cb + cc) := ⟨fun η Q E q K P O L ρ S hK w r => by
  refine Out.bind (ha.ok η _ E q K P O L ρ S (by omega) w r) (by omega) fun x u P1 S1 s1 w1 v1 q1 => ?_
  refine Out.bind (hb.ok η _ E q1 _ P1 O L ρ S1 (by omega) w1 (r.step s1)) (by omega) fun y t P2 S2 s2 w2 v2 q2 => ?_
  refine Out.bind (hc.ok η _ E q2 _ P2 O L ρ S2 (by omega) w2 ((r.step s1).step s2)) (by omega) fun z z' P3 S3 s3 w3 v3 q3 => ?_
  cases u with
  | int i => cases t with
    | int j => cases z' with
      | int k =>
        rw [v1.int_inv, v2.int_inv, v3.int_inv]
        unfold gRng3
        dsimp only
        rw [if_pos q3.1]
        exact Out.okI (src := ⟨[], rngC i k (Builtin.Range.rangeSize i j k).toNat⟩) (w3.le (by omega)) (vws_ints _) (fun p hp => by cases hp) q3.2
      | _ => exact q3.elim
    | _ => exact q3.elim
  | _ => exact q3.elim⟩
instance {a b : M D} {va vb : VT U} [ha : SE a va ca] [hb : SE b vb cb] : SI (mZip a b) (vZip va vb) (ca + cb) := ⟨fun η Q E q K P O L ρ S hK w r => by
  refine Out.bind (ha.ok η _ E q K P O L ρ S (by omega) w r) (by omega) fun x u P1 S1 s1 w1 v1 q1 => ?_
  refine Out.bind (hb.ok η _ E q1 _ P1 O L ρ S1 (by omega) w1 (r.step s1)) (by omega) fun y t P2 S2 s2 w2 v2 q2 => ?_
  have v1' := v1.step s2
  cases u with
  | tup us => cases t with
    | tup ts =>
      obtain ⟨ds, rfl, hv⟩ := v1'.tup_inv
      obtain ⟨es, rfl, hv2⟩ := v2.tup_inv
      exact Out.okI (src := ⟨[], zipD ds es⟩) (w2.le (by omega)) (hv.zip hv2) (fun p hp => by cases hp) q2
    | _ => exact q2.elim
  | lst us => cases t with
    | lst ts =>
      obtain ⟨i, ds, rfl, h1, h2, e, hv⟩ := v1'.lst_inv
      obtain ⟨j, es, rfl, h3, h4, e2, hv2⟩ := v2.lst_inv
      unfold gZip lsq
      simp only [e, e2]
      exact Out.okI (src := ⟨[(i, ds)] ++ [(j, es)], zipD ds es⟩) (w2.le (by omega)) (hv.zip hv2) (fun p hp => by
        simp only [List.mem_append, List.mem_singleton] at hp
        rcases hp with rfl | rfl
        · exact ⟨h1, h2, e⟩
        · exact ⟨h3, h4, e2⟩) q2
    | _ => exact q2.elim
  | _ => exact q2.elim⟩
/-! slices -/
def vPartN : VT (Option Int) := fun _ Q _ => Q none
def vPartS (a : VT U) : VT (Option Int) := fun η Q E => a η (fun x => match x with
  | .int i => Q (some i)
  | _ => False) E
instance : SO none vPartN 0 := ⟨fun η Q E q K P O L ρ S hK w r => Out.ok (R := RO) w rfl q⟩
instance {a : M D} {va : VT U} [ha : SE a va ca] : SO (some a) (vPartS va) ca := ⟨fun η Q E q K P O L ρ S hK w r => by
  refine Out.bind (ha.ok η _ E q K P O L ρ S (by omega) w r) (by omega) fun x u P1 S1 s1 w1 v1 q1 => ?_
  cases u with
  | int i => rw [v1.int_inv]; exact Out.ok (R := RO) w1 rfl q1
  | _ => exact q1.elim⟩
def vSlice (a : VT U) (lo hi : VT (Option Int)) : VT U := fun η Q E => a η (fun x => lo η (fun l => hi η (fun h => match x with
  | .tup us => Q (.tup (cutL us l h))
  | .lst us => Q (.lst (cutL us l h))
  | .fro us => Q (.lst (cutL us l h))
  | _ => False) E) E) E
theorem Vws.cutL {P X : List Nat} {S : Store} {ds : List D} {us : List U} {lo hi : Option Int} (v : Vws P X S ds us) : Vws P X S (cutL ds lo hi) (MI.cutL us lo hi) := by
  unfold MI.cutL
  rw [v.length]
  exact (v.drop _).take _
instance {a : M D} {lo hi : Option (M D)} {va : VT U} {vl vh : VT (Option Int)} [ha : SE a va ca] [hl : SO lo vl cb] [hh : SO hi vh cc] : SE (mSlice a lo hi) (vSlice va vl vh) (ca + cb + cc) := ⟨fun η Q E q K P O L ρ S hK w r => by
  refine Out.bind (ha.ok η _ E q K P O L ρ S (by omega) w r) (by omega) fun x u P1 S1 s1 w1 v1 q1 => ?_
  refine Out.bind (hl.ok η _ E q1 _ P1 O L ρ S1 (by omega) w1 (r.step s1)) (by omega) fun y t P2 S2 s2 w2 v2 q2 => ?_
  refine Out.bind (hh.ok η _ E q2 _ P2 O L ρ S2 (by omega) w2 ((r.step s1).step s2)) (by omega) fun z z' P3 S3 s3 w3 v3 q3 => ?_
  cases v2
  cases v3
  have v1' := (v1.step s2).step s3
  cases u with
  | tup us =>
    obtain ⟨ds, rfl, hv⟩ := v1'.tup_inv
    exact Out.ok (w3.le (by omega)) (.tup hv.cutL) q3
  | lst us =>
    obtain ⟨i, ds, rfl, h1, h2, e, hv⟩ := v1'.lst_inv
    have e2 : gSl (.ref i) y z S3 = .ok (.ref S3.length) (S3 ++ [.lst (MI.cutL ds y z)]) := by
      unfold gSl seqOf
      simp only [e]
    rw [e2]
    exact ((go_lst w3 hv.cutL q3).out).le (by omega)
  | fro us =>
    obtain ⟨ds, rfl, hv⟩ := v1'.fro_inv
    exact ((go_lst w3 hv.cutL q3).out).le (by omega)
  | _ => exact q3.elim⟩
/-! errors -/
def vVal (names : List Str) (a : VT U) : VT U := fun η Q E => a η (fun x => match x with
  | .exc c u => c ∈ names ∧ Q u
  | _ => False) E
def vIsE (names : List Str) (sub : Str → Bool) (a : VT U) : VT U := fun η Q E => a η (fun x => match x with
  | .exc c _ => c ∈ names ∧ Q (.bl (sub c))
  | _ => False) E
instance {names : List Str} {a : M D} {va : VT U} [ha : SE a va ca] : SE (mVal names a) (vVal names va) ca := ⟨fun η Q E q K P O L ρ S hK w r => by
  refine Out.bind (ha.ok η _ E q K P O L ρ S (by omega) w r) (by omega) fun x u P1 S1 s1 w1 v1 q1 => ?_
  cases u with
  | exc c t =>
    obtain ⟨i, e, rfl, _, _, e1, hv⟩ := v1.exc_inv
    unfold excAt
    simp only [e1, q1.1, if_true]
    exact Out.ok w1 hv q1.2
  | _ => exact q1.elim⟩
instance {names : List Str} {sub : Str → Bool} {a : M D} {va : VT U} [ha : SE a va ca] : SE (mIsE names sub a) (vIsE names sub va) ca := ⟨fun η Q E q K P O L ρ S hK w r => by
  refine Out.bind (ha.ok η _ E q K P O L ρ S (by omega) w r) (by omega) fun x u P1 S1 s1 w1 v1 q1 => ?_
  cases u with
  | exc c t =>
    obtain ⟨i, e, rfl, _, _, e1, hv⟩ := v1.exc_inv
    unfold excAt
    simp only [e1, q1.1, if_true]
    exact Out.ok w1 (.bl _) q1.2
  | _ => exact q1.elim⟩
/-! targets -/
mutual
def asgE : Tgt → U → Env → Option Env
  | .nm i, u, η => some (η.set i (.va u))
  | .tp ts, u, η => match u with
    | .tup us => asgsE ts us η
    | _ => none
def asgsE : List Tgt → List U → Env → Option Env
  | [], [], η => some η
  | t :: ts, u :: us, η => match asgE t u η with
    | some η1 => asgsE ts us η1
    | none => none
  | _, _, _ => none
end
theorem Rel.setV {P O L : List Nat} {η : Env} {ρ : Sl} {S : Store} {i : Nat} {d : D} {u : U} (r : Rel P O L η ρ S) (v : Vw P (O ++ L) S d u) : Rel P O L (η.set i (.va u)) (ρ.set i (some d)) S := by
  have key : ∀ (j : Nat) (x : UO), (η.set i (.va u))[j]? = some x → (j = i ∧ x = .va u ∧ j < η.length) ∨ (j ≠ i ∧ η[j]? = some x) := fun j x h => by
    by_cases hj : j = i
    · subst hj
      have hl := lt_of_get h
      rw [List.length_set] at hl
      rw [List.getElem?_set_self hl] at h
      cases h
      exact .inl ⟨rfl, rfl, hl⟩
    · rw [List.getElem?_set_ne (Ne.symm hj)] at h
      exact .inr ⟨hj, h⟩
  refine ⟨by simp [r.len], fun j t h => ?_, fun j us h => ?_, fun j k us vs a hjk h1 h2 h3 => ?_, r.dj⟩
  · rcases key j _ h with ⟨rfl, e, hl⟩ | ⟨hj, h⟩
    · cases e
      exact ⟨d, by rw [List.getElem?_set_self (by rw [← r.len]; exact hl)], v⟩
    · rw [List.getElem?_set_ne (Ne.symm hj)]
      exact r.va j t h
  · rcases key j _ h with ⟨_, e, _⟩ | ⟨hj, h⟩
    · cases e
    · rw [List.getElem?_set_ne (Ne.symm hj)]
      exact r.ow j us h
  · rcases key j _ h1 with ⟨_, e, _⟩ | ⟨hj, h1⟩
    · cases e
    · rcases key k _ h2 with ⟨_, e, _⟩ | ⟨hk, h2⟩
      · cases e
      · rw [List.getElem?_set_ne (Ne.symm hj)] at h3
        rw [List.getElem?_set_ne (Ne.symm hk)]
        exact r.dis j k us vs a hjk h1 h2 h3
theorem Rel.setU {P O L : List Nat} {η : Env} {ρ : Sl} {S : Store} {i : Nat} {x : Option D} (r : Rel P O L η ρ S) : Rel P O L (η.set i .un) (ρ.set i x) S := by
  have key : ∀ (j : Nat) (x : UO), (η.set i .un)[j]? = some x → (x = .un) ∨ (j ≠ i ∧ η[j]? = some x) := fun j x h => by
    by_cases hj : j = i
    · subst hj
      have hl := lt_of_get h
      rw [List.length_set] at hl
      rw [List.getElem?_set_self hl] at h
      cases h
      exact .inl rfl
    · rw [List.getElem?_set_ne (Ne.symm hj)] at h
      exact .inr ⟨hj, h⟩
  refine ⟨by simp [r.len], fun j t h => ?_, fun j us h => ?_, fun j k us vs a hjk h1 h2 h3 => ?_, r.dj⟩
  · rcases key j _ h with e | ⟨hj, h⟩
    · cases e
    · rw [List.getElem?_set_ne (Ne.symm hj)]
      exact r.va j t h
  · rcases key j _ h with e | ⟨hj, h⟩
    · cases e
    · rw [List.getElem?_set_ne (Ne.symm hj)]
      exact r.ow j us h
  · rcases key j _ h1 with e | ⟨hj, h1⟩
    · cases e
    · rcases key k _ h2 with e | ⟨hk, h2⟩
      · cases e
      · rw [List.getElem?_set_ne (Ne.symm hj)] at h3
        rw [List.getElem?_set_ne (Ne.symm hk)]
        exact r.dis j k us vs a hjk h1 h2 h3
mutual
theorem Rel.asg {P O L : List Nat} {S : Store} : ∀ (t : Tgt) {η η' : Env} {ρ : Sl} {d : D} {u : U}, Rel P O L η ρ S → Vw P (O ++ L) S d u → asgE t u η = some η' → ∃ ρ', asg t d ρ = some ρ' ∧ Rel P O L η' ρ' S
  | .nm i, η, η', ρ, d, u, r, v, h => by
    simp only [asgE, Option.some.injEq] at h
    subst h
    exact ⟨_, by simp only [MI.asg], r.setV v⟩
  | .tp ts, η, η', ρ, d, u, r, v, h => by
    cases u with
    | tup us =>
      obtain ⟨ds, rfl, hv⟩ := v.tup_inv
      simp only [asgE] at h
      obtain ⟨ρ', e, r'⟩ := Rel.asgs ts r hv h
      exact ⟨ρ', by simp only [MI.asg, tupOf]; exact e, r'⟩
    | _ => simp [asgE] at h
theorem Rel.asgs {P O L : List Nat} {S : Store} : ∀ (t : List Tgt) {η η' : Env} {ρ : Sl} {d : List D} {u : List U}, Rel P O L η ρ S → Vws P (O ++ L) S d u → asgsE t u η = some η' → ∃ ρ', asgs t d ρ = some ρ' ∧ Rel P O L η' ρ' S
  | [], η, η', ρ, d, [], r, v, h => by
    cases v
    simp only [asgsE, Option.some.injEq] at h
    subst h
    exact ⟨ρ, by simp only [MI.asgs], r⟩
  | [], η, η', ρ, d, _ :: _, r, v, h => by simp [asgsE] at h
  | t :: ts, η, η', ρ, d, [], r, v, h => by simp [asgsE] at h
  | t :: ts, η, η', ρ, d, u :: us, r, v, h => by
    cases v with
    | @cons d0 _ ds _ v1 v2 =>
      simp only [asgsE] at h
      cases h1 : asgE t u η with
      | none => rw [h1] at h; cases h
      | some η1 =>
        rw [h1] at h
        obtain ⟨ρ1, e1, r1⟩ := Rel.asg t r v1 h1
        obtain ⟨ρ2, e2, r2⟩ := Rel.asgs ts r1 v2 h
        exact ⟨ρ2, by simp only [MI.asgs, e1]; exact e2, r2⟩
end
/-! comprehensions -/
def wipeE (η : Env) : List Nat → Env
  | [] => η
  | v :: vs => (wipeE η vs).set v .un
theorem Rel.wipe {P O L : List Nat} {η : Env} {ρ : Sl} {S : Store} (r : Rel P O L η ρ S) : ∀ vs : List Nat, Rel P O L (wipeE η vs) (wipeS ρ vs) S
  | [] => r
  | v :: vs => (Rel.wipe r vs).setU
def lcV (t : Tgt) (c : VT Bool) (elt : VT U) (η : Env) : List U → (List U → Prop) → Prop
  | [], Q => Q []
  | x :: xs, Q => match asgE t x η with
    | none => False
    | some η1 => c η1 (fun b => if b = true then elt η1 (fun u => lcV t c elt η xs fun us => Q (u :: us)) noE else lcV t c elt η xs Q) noE
def vLc (t : Tgt) (own : List Nat) (src : VT (List U)) (c : VT Bool) (elt : VT U) : VT (List U) := fun η Q E => src η (fun items => items.length < 16000000 ∧ lcV t c elt (wipeE η own) items Q) E
def vYes : VT Bool := fun _ Q _ => Q true
instance : ST mYes vYes 0 := ⟨fun η Q E q K P O L ρ S hK w r => Out.ok (R := RB) w rfl q⟩
def CellsOk (P X : List Nat) (S : Store) (src : Src) : Prop := ∀ p ∈ src.cells, p.1 ∉ P ∧ p.1 ∉ X ∧ S[p.1]? = some (.lst p.2)
theorem CellsOk.ok {P X : List Nat} {S : Store} {src : Src} (h : CellsOk P X S src) : src.ok S = true := by
  unfold Src.ok
  rw [List.all_eq_true]
  exact fun p hp => cellIs_of (h p hp).2.2
theorem CellsOk.step {P X P' : List Nat} {S S' : Store} {src : Src} (h : CellsOk P X S src) (s : Stp P [] S P' S') : CellsOk P' X S' src := fun p hp => by
  obtain ⟨h1, h2, h3⟩ := h p hp
  exact ⟨fun z => (s.new _ z).elim h1 fun w => by have := lt_of_get h3; omega, h2, s.keep _ _ h3 h1 (by simp)⟩
theorem Out.noX {α β : Type} {R : RT α β} {K : Nat} {P X : List Nat} {S : Store} {r : Res α} {Q : β → Prop} {E : Str → U → Prop} (h : Out R K P X S r Q noE) : Out R K P X S (MI.noX r) Q E := by
  cases r with
  | ok a S' => exact h
  | exc c d S' => obtain ⟨_, _, _, _, _, z⟩ := h; exact z.elim
  | no => exact h
theorem lc_out {t : Tgt} {c : M Bool} {elt : M D} {vc : VT Bool} {ve : VT U} {src : Src} [hc : ST c vc ca] [he : SE elt ve cb] {E : Str → U → Prop} {P0 O L : List Nat} {η : Env} {ρ : Sl} : ∀ (items : List D) (us : List U) (Q : List U → Prop) (K : Nat) (P : List Nat) (S : Store),
    lcV t vc ve η us Q → K + items.length * (ca + cb) ≤ KM → Wd K P (O ++ L) S → Rel P O L η ρ S → Vws P (O ++ L) S items us → CellsOk P (O ++ L) S src → Out Rs (K + items.length * (ca + cb)) P (O ++ L) S (lcL t src c elt ρ items S) Q E
  | [], us, Q, K, P, S, q, hK, w, r, v, ck => by
    cases v
    unfold lcL
    rw [if_pos ck.ok]
    exact Out.ok (R := Rs) (w.le (by omega)) .nil q
  | d :: ds, us, Q, K, P, S, q, hK, w, r, v, ck => by
    cases v with
    | @cons _ u _ us v1 v2 =>
      unfold lcV at q
      split at q
      · exact q.elim
      · rename_i η1 hη
        obtain ⟨ρ1, e1, r1⟩ := r.asg t v1 hη
        unfold lcL
        rw [if_pos ck.ok, e1]
        rw [List.length_cons, Nat.succ_mul] at hK ⊢
        refine Out.bind (Out.noX (hc.ok η1 _ _ q K P O L ρ1 S (by omega) w r1)) (by omega) fun x b P1 S1 s1 w1 hb q1 => ?_
        cases hb
        cases x
        · simp only [Bool.false_eq_true, if_false] at q1 ⊢
          exact (lc_out (P0 := P0) ds us Q _ P1 S1 q1 (by omega) w1 (r.step s1) (v2.step s1) (ck.step s1)).le (by omega)
        · simp only [if_true] at q1 ⊢
          refine Out.bind (Out.noX (he.ok η1 _ _ q1 _ P1 O L ρ1 S1 (by omega) w1 (r1.step s1))) (by omega) fun x u2 P2 S2 s2 w2 hv q2 => ?_
          have s12 := s1.trans s2 (fun _ h => by cases h)
          refine Out.bind ((lc_out (E := E) (P0 := P0) ds us _ _ P2 S2 q2 (by omega) w2 (r.step s12) (v2.step s12) (ck.step s12)).le (K2 := K + (ds.length * (ca + cb) + (ca + cb))) (by omega)) (by omega) fun xs vs P3 S3 s3 w3 hv3 q3 => ?_
          exact Out.ok (R := Rs) w3 (.cons (hv.step s3) hv3) q3
instance {t : Tgt} {own : List Nat} {m : M Src} {c : M Bool} {elt : M D} {vm : VT (List U)} {vc : VT Bool} {ve : VT U} [hm : SI m vm cc] [hc : ST c vc ca] [he : SE elt ve cb] : SA (mLc t own m c elt) (vLc t own vm vc ve) (cc + 16000000 * (ca + cb)) := ⟨fun η Q E q K P O L ρ S hK w r => by
  refine Out.bind (hm.ok η _ E q K P O L ρ S (by omega) w r) (by omega) fun src us P1 S1 s1 w1 v1 q1 => ?_
  have hl : src.items.length < 16000000 := by rw [v1.1.length]; exact q1.1
  rw [if_pos hl]
  have hm : src.items.length * (ca + cb) ≤ 16000000 * (ca + cb) := Nat.mul_le_mul_right _ (by omega)
  exact (lc_out (P0 := P) src.items us Q _ P1 S1 q1.2 (by omega) w1 ((r.step s1).wipe own) v1.1 v1.2).le (by omega)⟩
/-! two nested -/
def lcV2 (t : Tgt) (c : VT Bool) (body : Env → (List U → Prop) → Prop) (η : Env) : List U → (List U → Prop) → Prop
  | [], Q => Q []
  | x :: xs, Q => match asgE t x η with
    | none => False
    | some η1 => c η1 (fun b => if b = true then body η1 (fun ys => lcV2 t c body η xs fun zs => Q (ys ++ zs)) else lcV2 t c body η xs Q) noE
def innV (t1 : Tgt) (vs1 : List Nat) (src1 : VT (List U)) (c1 : VT Bool) (elt : VT U) : Env → (List U → Prop) → Prop := fun η Q => src1 η (fun items => items.length < 16000000 ∧ lcV t1 c1 elt (wipeE η vs1) items Q) noE
def vLc2 (t : Tgt) (own : List Nat) (src : VT (List U)) (c : VT Bool) (t1 : Tgt) (vs1 : List Nat) (src1 : VT (List U)) (c1 : VT Bool) (elt : VT U) : VT (List U) := fun η Q E => src η (fun items => items.length < 16000000 ∧ lcV2 t c (innV t1 vs1 src1 c1 elt) (wipeE η own) items fun us => us.length < 16000000 ∧ Q us) E
theorem inn_out {t1 : Tgt} {vs1 : List Nat} {m1 : M Src} {c1 : M Bool} {elt : M D} {vm : VT (List U)} {vc : VT Bool} {ve : VT U} [hm : SI m1 vm cc] [hc : ST c1 vc ca] [he : SE elt ve cb] {E : Str → U → Prop} {O L : List Nat} {η : Env} {ρ : Sl} {Q : List U → Prop} {K : Nat} {P : List Nat} {S : Store}
    (q : innV t1 vs1 vm vc ve η Q) (hK : K + (cc + 16000000 * (ca + cb)) ≤ KM) (w : Wd K P (O ++ L) S) (r : Rel P O L η ρ S) : Out Rs (K + (cc + 16000000 * (ca + cb))) P (O ++ L) S (inn t1 vs1 m1 c1 elt ρ S) Q E := by
  refine Out.bind (Out.noX (hm.ok η _ _ q K P O L ρ S (by omega) w r)) (by omega) fun src us P1 S1 s1 w1 v1 q1 => ?_
  have hl : src.items.length < 16000000 := by rw [v1.1.length]; exact q1.1
  have hm : src.items.length * (ca + cb) ≤ 16000000 * (ca + cb) := Nat.mul_le_mul_right _ (by omega)
  exact (lc_out (P0 := P) src.items us Q _ P1 S1 q1.2 (by omega) w1 ((r.step s1).wipe vs1) v1.1 v1.2).le (by omega)
theorem lc2_out {t : Tgt} {c : M Bool} {body : M (List D)} {vc : VT Bool} {vb : Env → (List U → Prop) → Prop} {src : Src} [hc : ST c vc ca] {E : Str → U → Prop} {O L : List Nat} {η : Env} {ρ : Sl}
    (hb : ∀ (η : Env) (ρ : Sl) (Q : List U → Prop) (K : Nat) (P : List Nat) (S : Store), vb η Q → K + cb ≤ KM → Wd K P (O ++ L) S → Rel P O L η ρ S → Out Rs (K + cb) P (O ++ L) S (body ρ S) Q E) : ∀ (items : List D) (us : List U) (Q : List U → Prop) (K : Nat) (P : List Nat) (S : Store),
    lcV2 t vc vb η us Q → K + items.length * (ca + cb) ≤ KM → Wd K P (O ++ L) S → Rel P O L η ρ S → Vws P (O ++ L) S items us → CellsOk P (O ++ L) S src → Out Rs (K + items.length * (ca + cb)) P (O ++ L) S (lcL2 t src c body ρ items S) Q E
  | [], us, Q, K, P, S, q, hK, w, r, v, ck => by
    cases v
    unfold lcL2
    rw [if_pos ck.ok]
    exact Out.ok (R := Rs) (w.le (by omega)) .nil q
  | d :: ds, us, Q, K, P, S, q, hK, w, r, v, ck => by
    cases v with
    | @cons _ u _ us v1 v2 =>
      unfold lcV2 at q
      split at q
      · exact q.elim
      · rename_i η1 hη
        obtain ⟨ρ1, e1, r1⟩ := r.asg t v1 hη
        unfold lcL2
        rw [if_pos ck.ok, e1]
        rw [List.length_cons, Nat.succ_mul] at hK ⊢
        refine Out.bind (Out.noX (hc.ok η1 _ _ q K P O L ρ1 S (by omega) w r1)) (by omega) fun x b P1 S1 s1 w1 hbb q1 => ?_
        cases hbb
        cases x
        · simp only [Bool.false_eq_true, if_false] at q1 ⊢
          exact (lc2_out hb ds us Q _ P1 S1 q1 (by omega) w1 (r.step s1) (v2.step s1) (ck.step s1)).le (by omega)
        · simp only [if_true] at q1 ⊢
          refine Out.bind (hb η1 ρ1 _ _ P1 S1 q1 (by omega) w1 (r1.step s1)) (by omega) fun x u2 P2 S2 s2 w2 hv q2 => ?_
          have s12 := s1.trans s2 (fun _ h => by cases h)
          refine Out.bind ((lc2_out hb ds us _ _ P2 S2 q2 (by omega) w2 (r.step s12) (v2.step s12) (ck.step s12)).le (K2 := K + (ds.length * (ca + cb) + (ca + cb))) (by omega)) (by omega) fun xs vs P3 S3 s3 w3 hv3 q3 => ?_
          exact Out.ok (R := Rs) w3 ((hv.step s3).cat hv3) q3
instance {t t1 : Tgt} {own vs1 : List Nat} {m m1 : M Src} {c c1 : M Bool} {elt : M D} {vm vm1 : VT (List U)} {vc vc1 : VT Bool} {ve : VT U} [hm : SI m vm cc] [hc : ST c vc ca] [hm1 : SI m1 vm1 cd] [hc1 : ST c1 vc1 ce] [he : SE elt ve cb] :
    SA (mLc2 t own m c t1 vs1 m1 c1 elt) (vLc2 t own vm vc t1 vs1 vm1 vc1 ve) (cc + 16000000 * (ca + (cd + 16000000 * (ce + cb)))) := ⟨fun η Q E q K P O L ρ S hK w r => by
  refine Out.bind (hm.ok η _ E q K P O L ρ S (by omega) w r) (by omega) fun src us P1 S1 s1 w1 v1 q1 => ?_
  have hl : src.items.length < 16000000 := by rw [v1.1.length]; exact q1.1
  have hm : src.items.length * (ca + (cd + 16000000 * (ce + cb))) ≤ 16000000 * (ca + (cd + 16000000 * (ce + cb))) := Nat.mul_le_mul_right _ (by omega)
  refine Out.bind (Out.noX ((lc2_out (E := noE) (vb := innV t1 vs1 vm1 vc1 ve) (cb := cd + 16000000 * (ce + cb)) (fun η ρ Q K P S q hK w r => inn_out q hK w r) src.items us _ _ P1 S1 q1.2 (by omega) w1 ((r.step s1).wipe own) v1.1 v1.2).le (K2 := K + (cc + 16000000 * (ca + (cd + 16000000 * (ce + cb))))) (by omega))) (Nat.le_refl _) fun xs vs P2 S2 s2 w2 v2 q2 => ?_
  unfold chk
  rw [List.nil_append, if_pos (by rw [v2.length]; exact q2.1)]
  exact Out.ok (R := Rs) w2 v2 q2.2⟩
end
end MI

set_option Elab.async false
set_option linter.all false
set_option maxRecDepth 100000
set_option maxHeartbeats 1000000
/-! # Texts as what they do with values: statements, defs -/
namespace MI
open PySem PySem.Spec PyProof.Rows L2
/-- marks of the text: a list that its slot alone holds; it is handed on from here -/
def sOwn (i : Nat) (m : M D) : MS := sAsg (.nm i) m
def sFrz (i : Nat) (s : MS) : MS := s
def mIxO (i : Nat) (e : M D) : M D := mOp gIx (mV i) e
def sSetO (i : Nat) (k e : M D) : MS := sSet (mV i) k e
def sAppO (i : Nat) (e : M D) : MS := sExpr (mMt gApp (mV i) (mCons e mNil))
abbrev XE := Str → U → Env → Prop
abbrev VS := Env → (Env → Prop) → (U → Prop) → XE → (Env → Prop) → (Env → Prop) → Prop
def OutN (K : Nat) (P O L : List Nat) (S : Store) (ρ' : Sl) (S' : Store) (N : Env → Prop) : Prop := ∃ P' L' η', Stp P L S P' S' ∧ (∀ a ∈ L', a ∈ L ∨ S.length ≤ a) ∧ Wd K P' (O ++ L') S' ∧ Rel P' O L' η' ρ' S' ∧ N η'
def OutS (K : Nat) (P O L : List Nat) (S : Store) (r : SR) (N : Env → Prop) (R : U → Prop) (X : XE) (B C : Env → Prop) : Prop := match r with
  | .next ρ' S' => OutN K P O L S ρ' S' N
  | .brk ρ' S' => OutN K P O L S ρ' S' B
  | .cont ρ' S' => OutN K P O L S ρ' S' C
  | .ret d S' => ∃ P' u, Stp P L S P' S' ∧ Wd K P' O S' ∧ Vw P' O S' d u ∧ R u
  | .exc c d ρ' S' => ∃ P' L' η' u, Stp P L S P' S' ∧ (∀ a ∈ L', a ∈ L ∨ S.length ≤ a) ∧ Wd K P' (O ++ L') S' ∧ Rel P' O L' η' ρ' S' ∧ Vw P' (O ++ L') S' d u ∧ X c u η'
  | .no => False
class SS (s : MS) (w : outParam VS) (c : outParam Nat) : Prop where
  ok : ∀ η N R X B C, w η N R X B C → ∀ K P O L ρ S, K + c ≤ KM → Wd K P (O ++ L) S → Rel P O L η ρ S → OutS (K + c) P O L S (s ρ S) N R X B C
section
variable {K K1 K2 : Nat} {P O L P1 L1 : List Nat} {S S1 : Store} {ρ : Sl} {η : Env} {N N1 : Env → Prop} {R : U → Prop} {X : XE} {B C : Env → Prop} {r : SR}
theorem OutN.from (s : Stp P L S P1 S1) (hl : ∀ a ∈ L1, a ∈ L ∨ S.length ≤ a) (h : OutN K P1 O L1 S1 ρ S N) {S2 : Store} : True := trivial
theorem OutN.of (s : Stp P L S P1 S1) (hl : ∀ a ∈ L1, a ∈ L ∨ S.length ≤ a) {ρ' : Sl} {S' : Store} (h : OutN K P1 O L1 S1 ρ' S' N) : OutN K P O L S ρ' S' N := by
  obtain ⟨P', L', η', s', l', z⟩ := h
  exact ⟨P', L', η', s.trans s' hl, fun a ha => (l' a ha).elim (hl a) fun w => .inr (Nat.le_trans s.len w), z⟩
theorem OutS.from (s : Stp P L S P1 S1) (hl : ∀ a ∈ L1, a ∈ L ∨ S.length ≤ a) (h : OutS K P1 O L1 S1 r N R X B C) : OutS K P O L S r N R X B C := by
  cases r with
  | next ρ' S' => exact OutN.of s hl h
  | brk ρ' S' => exact OutN.of s hl h
  | cont ρ' S' => exact OutN.of s hl h
  | ret d S' => obtain ⟨P', u, s', z⟩ := h; exact ⟨P', u, s.trans s' hl, z⟩
  | exc c d ρ' S' =>
    obtain ⟨P', L', η', u, s', l', z⟩ := h
    exact ⟨P', L', η', u, s.trans s' hl, fun a ha => (l' a ha).elim (hl a) fun w => .inr (Nat.le_trans s.len w), z⟩
  | no => exact h
theorem OutN.le {ρ' : Sl} {S' : Store} (h : OutN K1 P O L S ρ' S' N) (l : K1 ≤ K2) : OutN K2 P O L S ρ' S' N := by
  obtain ⟨P', L', η', s, l', w, z⟩ := h
  exact ⟨P', L', η', s, l', w.le l, z⟩
theorem OutS.le (h : OutS K1 P O L S r N R X B C) (l : K1 ≤ K2) : OutS K2 P O L S r N R X B C := by
  cases r with
  | next ρ' S' => exact OutN.le h l
  | brk ρ' S' => exact OutN.le h l
  | cont ρ' S' => exact OutN.le h l
  | ret d S' => obtain ⟨P', u, s', w, z⟩ := h; exact ⟨P', u, s', w.le l, z⟩
  | exc c d ρ' S' => obtain ⟨P', L', η', u, s', l', w, z⟩ := h; exact ⟨P', L', η', u, s', l', w.le l, z⟩
  | no => exact h
theorem outS_next (w : Wd K P (O ++ L) S) (r : Rel P O L η ρ S) (n : N η) : OutS K P O L S (.next ρ S) N R X B C := ⟨P, L, η, Stp.refl, fun _ h => .inl h, w, r, n⟩
theorem OutS.bindR {α β : Type} {Rt : RT α β} {Q : β → Prop} {m : Res α} {k : α → Store → SR} (h : Out Rt K1 P (O ++ L) S m Q (fun c u => X c u η)) (rl : Rel P O L η ρ S) (l : K1 ≤ K2)
    (hk : ∀ a b P1 S1, Stp P [] S P1 S1 → Wd K1 P1 (O ++ L) S1 → Rt P1 (O ++ L) S1 a b → Q b → OutS K2 P1 O L S1 (k a S1) N R X B C) : OutS K2 P O L S (SR.bindR m ρ k) N R X B C := by
  cases m with
  | ok a S' =>
    obtain ⟨P', b, s, w, v, q⟩ := h
    exact (hk a b P' S' s w v q).from s.nilL fun a h => .inl h
  | exc c d S' =>
    obtain ⟨P', u, s, w, v, q⟩ := h
    exact ⟨P', L, η, u, s.nilL, fun a h => .inl h, w.le l, rl.step s, v, q⟩
  | no => exact h
theorem OutS.then {k : Sl → Store → SR} (h : OutS K1 P O L S r N1 R X B C) (l : K1 ≤ K2) (hk : ∀ ρ1 η1 P1 L1 S1, (∀ a ∈ L1, a ∈ L ∨ S.length ≤ a) → Wd K1 P1 (O ++ L1) S1 → Rel P1 O L1 η1 ρ1 S1 → N1 η1 → OutS K2 P1 O L1 S1 (k ρ1 S1) N R X B C) : OutS K2 P O L S (r.then k) N R X B C := by
  cases r with
  | next ρ' S' =>
    obtain ⟨P', L', η', s, l', w, rl, q⟩ := h
    exact (hk ρ' η' P' L' S' l' w rl q).from s l'
  | _ => exact OutS.le (N := N) h l
end
/-! ### the words -/
def wPass : VS := fun η N _ _ _ _ => N η
def wBrk : VS := fun η _ _ _ B _ => B η
def wCont : VS := fun η _ _ _ _ C => C η
def wSeq (a b : VS) : VS := fun η N R X B C => a η (fun η1 => b η1 N R X B C) R X B C
def wIf (c : VT Bool) (a b : VS) : VS := fun η N R X B C => c η (fun t => if t = true then a η N R X B C else b η N R X B C) (fun c u => X c u η)
def wRet (v : VT U) : VS := fun η _ R X _ _ => v η R (fun c u => X c u η)
def wExpr (v : VT U) : VS := fun η N _ X _ _ => v η (fun _ => N η) (fun c u => X c u η)
def wRaise (c : Str) (v : VT U) : VS := fun η _ _ X _ _ => v η (fun u => X c u η) (fun c u => X c u η)
def wAsg (t : Tgt) (v : VT U) : VS := fun η N _ X _ _ => v η (fun u => match asgE t u η with
  | some η1 => N η1
  | none => False) (fun c u => X c u η)
def wPar (i j : Nat) (a b : VT U) : VS := fun η N _ X _ _ => a η (fun x => b η (fun y => N ((η.set i (.va x)).set j (.va y))) (fun c u => X c u η)) (fun c u => X c u η)
def wPar3 (i j l : Nat) (a b d : VT U) : VS := fun η N _ X _ _ => a η (fun x => b η (fun y => d η (fun z => N (((η.set i (.va x)).set j (.va y)).set l (.va z))) (fun c u => X c u η)) (fun c u => X c u η)) (fun c u => X c u η)
def forV (t : Tgt) (body : VS) : List U → Env → (Env → Prop) → (U → Prop) → XE → Prop
  | [], η, N, _, _ => N η
  | x :: xs, η, N, R, X => match asgE t x η with
    | none => False
    | some η1 => body η1 (fun η2 => forV t body xs η2 N R X) R X N (fun η2 => forV t body xs η2 N R X)
def wFor (t : Tgt) (src : VT (List U)) (body : VS) : VS := fun η N R X _ _ => src η (fun items => items.length ≤ 4611686018427387904 ∧ forV t body items η N R X) (fun c u => X c u η)
def whV (c : VT Bool) (body : VS) : Nat → Env → (Env → Prop) → (U → Prop) → XE → Prop
  | 0, _, _, _, _ => False
  | n + 1, η, N, R, X => c η (fun b => if b = true then body η (fun η2 => whV c body n η2 N R X) R X N (fun η2 => whV c body n η2 N R X) else N η) (fun c u => X c u η)
def wWh (c : VT Bool) (body : VS) (n : Nat) : VS := fun η N R X _ _ => whV c body n η N R X
def wTry (cat : Str → Option Bool) (i : Nat) (b s : VS) : VS := fun η N R X B C => b η N R (fun c u η1 => match cat c with
  | some true => s (η1.set i (.va (.exc c u))) (fun η2 => N (η2.set i .un)) R (fun _ _ _ => False) (fun η2 => B (η2.set i .un)) (fun η2 => C (η2.set i .un))
  | some false => X c u η1
  | none => False) B C
def wFrz (i : Nat) (w : VS) : VS := fun η N R X B C => match η[i]? with
  | some (.ow us) => w (η.set i (.va (.lst us))) N R X B C
  | _ => w η N R X B C
def wAppO (i : Nat) (v : VT U) : VS := fun η N _ X _ _ => match η[i]? with
  | some (.ow us) => us.length < 16777216 ∧ v η (fun u => N (η.set i (.ow (us ++ [u])))) (fun c u => X c u η)
  | _ => False
def wSetO (i : Nat) (k v : VT U) : VS := fun η N _ X _ _ => match η[i]? with
  | some (.ow us) => v η (fun u => k η (fun j => match j with
    | .int j => match ixN us.length j with
      | some n => N (η.set i (.ow (us.set n u)))
      | none => False
    | _ => False) (fun c u => X c u η)) (fun c u => X c u η)
  | _ => False
def vIxO (i : Nat) (e : VT U) : VT U := fun η Q E => match η[i]? with
  | some (.ow us) => e η (fun j => match j with
    | .int j => match L2.atI us j with
      | some u => Q u
      | none => False
    | _ => False) E
  | _ => False
def wOwn (i : Nat) (v : VT (List U)) : VS := fun η N _ X _ _ => v η (fun us => N (η.set i (.ow us))) (fun c u => X c u η)
def wFn (n : Nat) (w : VS) : VFT := fun us Q E => w (us.map UO.va ++ List.replicate (n - us.length) .un) (fun _ => Q .non) Q (fun c u _ => E c u) (fun _ => False) (fun _ => False)
section
variable {ca cb cc cd : Nat}
instance : SS sPass wPass 0 := ⟨fun η N R X B C q K P O L ρ S hK w r => outS_next w r q⟩
instance : SS sBrk wBrk 0 := ⟨fun η N R X B C q K P O L ρ S hK w r => outS_next (N := B) (R := R) (X := X) (B := B) (C := C) w r q⟩
instance : SS sCont wCont 0 := ⟨fun η N R X B C q K P O L ρ S hK w r => outS_next (N := C) (R := R) (X := X) (B := B) (C := C) w r q⟩
instance {a b : MS} {wa wb : VS} [ha : SS a wa ca] [hb : SS b wb cb] : SS (sSeq a b) (wSeq wa wb) (ca + cb) := ⟨fun η N R X B C q K P O L ρ S hK w r => by
  refine OutS.then (ha.ok η _ R X B C q K P O L ρ S (by omega) w r) (by omega) fun ρ1 η1 P1 L1 S1 hl w1 r1 q1 => ?_
  exact (hb.ok η1 N R X B C q1 _ P1 O L1 ρ1 S1 (by omega) w1 r1).le (by omega)⟩
instance {c : M Bool} {a b : MS} {vc : VT Bool} {wa wb : VS} [hc : ST c vc cc] [ha : SS a wa ca] [hb : SS b wb cb] : SS (sIf c a b) (wIf vc wa wb) (cc + (ca + cb)) := ⟨fun η N R X B C q K P O L ρ S hK w r => by
  refine OutS.bindR (hc.ok η _ _ q K P O L ρ S (by omega) w r) r (by omega) fun x t P1 S1 s1 w1 e q1 => ?_
  cases e
  cases x
  · simp only [Bool.false_eq_true, if_false] at q1 ⊢
    exact (hb.ok η N R X B C q1 _ P1 O L ρ S1 (by omega) w1 (r.step s1)).le (by omega)
  · simp only [if_true] at q1 ⊢
    exact (ha.ok η N R X B C q1 _ P1 O L ρ S1 (by omega) w1 (r.step s1)).le (by omega)⟩
theorem mem_app_l {a : Nat} {O L : List Nat} (h : a ∈ O) : a ∈ O ++ L := List.mem_append_left _ h
instance {m : M D} {v : VT U} [h : SE m v ca] : SS (sRet m) (wRet v) ca := ⟨fun η N R X B C q K P O L ρ S hK w r => by
  refine OutS.bindR (h.ok η _ _ q K P O L ρ S (by omega) w r) r (by omega) fun d u P1 S1 s1 w1 v1 q1 => ?_
  exact ⟨P1, u, Stp.refl, w1.less fun i h => mem_app_l h, v1.less fun i h => mem_app_l h, q1⟩⟩
instance {m : M D} {v : VT U} [h : SE m v ca] : SS (sExpr m) (wExpr v) ca := ⟨fun η N R X B C q K P O L ρ S hK w r => by
  refine OutS.bindR (h.ok η _ _ q K P O L ρ S (by omega) w r) r (by omega) fun d u P1 S1 s1 w1 v1 q1 => ?_
  exact outS_next w1 (r.step s1) q1⟩
instance {c : Str} {m : M D} {v : VT U} [h : SE m v ca] : SS (sRaise c m) (wRaise c v) ca := ⟨fun η N R X B C q K P O L ρ S hK w r => by
  refine OutS.bindR (h.ok η _ _ q K P O L ρ S (by omega) w r) r (by omega) fun d u P1 S1 s1 w1 v1 q1 => ?_
  exact ⟨P1, L, η, u, Stp.refl, fun _ h => .inl h, w1, r.step s1, v1, q1⟩⟩
instance {t : Tgt} {m : M D} {v : VT U} [h : SE m v ca] : SS (sAsg t m) (wAsg t v) ca := ⟨fun η N R X B C q K P O L ρ S hK w r => by
  refine OutS.bindR (h.ok η _ _ q K P O L ρ S (by omega) w r) r (by omega) fun d u P1 S1 s1 w1 v1 q1 => ?_
  split at q1
  · rename_i η1 e
    obtain ⟨ρ1, e1, r1⟩ := (r.step s1).asg t v1 e
    rw [e1]
    exact outS_next w1 r1 q1
  · exact q1.elim⟩
instance {i j : Nat} {a b : M D} {va vb : VT U} [ha : SE a va ca] [hb : SE b vb cb] : SS (sPar i j a b) (wPar i j va vb) (ca + cb) := ⟨fun η N R X B C q K P O L ρ S hK w r => by
  refine OutS.bindR (ha.ok η _ _ q K P O L ρ S (by omega) w r) r (by omega) fun d u P1 S1 s1 w1 v1 q1 => ?_
  refine OutS.bindR (hb.ok η _ _ q1 _ P1 O L ρ S1 (by omega) w1 (r.step s1)) (r.step s1) (by omega) fun d2 u2 P2 S2 s2 w2 v2 q2 => ?_
  exact outS_next (w2.le (by omega)) ((((r.step s1).step s2).setV (v1.step s2)).setV v2) q2⟩
instance {i j l : Nat} {a b d : M D} {va vb vd : VT U} [ha : SE a va ca] [hb : SE b vb cb] [hd : SE d vd cd] : SS (sPar3 i j l a b d) (wPar3 i j l va vb vd) (ca + cb + cd) := ⟨fun η N R X B C q K P O L ρ S hK w r => by
  refine OutS.bindR (ha.ok η _ _ q K P O L ρ S (by omega) w r) r (by omega) fun d u P1 S1 s1 w1 v1 q1 => ?_
  refine OutS.bindR (hb.ok η _ _ q1 _ P1 O L ρ S1 (by omega) w1 (r.step s1)) (r.step s1) (by omega) fun d2 u2 P2 S2 s2 w2 v2 q2 => ?_
  refine OutS.bindR (hd.ok η _ _ q2 _ P2 O L ρ S2 (by omega) w2 ((r.step s1).step s2)) ((r.step s1).step s2) (by omega) fun d3 u3 P3 S3 s3 w3 v3 q3 => ?_
  exact outS_next (w3.le (by omega)) ((((((r.step s1).step s2).step s3).setV ((v1.step s2).step s3)).setV (v2.step s3)).setV v3) q3⟩
/-! loops -/
theorem CellsOk.stepL {P P1 O L L1 : List Nat} {S S1 : Store} {src : Src} (h : CellsOk P (O ++ L) S src) (s : Stp P L S P1 S1) (hl : ∀ a ∈ L1, a ∈ L ∨ S.length ≤ a) : CellsOk P1 (O ++ L1) S1 src := fun p hp => by
  obtain ⟨h1, h2, h3⟩ := h p hp
  have lt := lt_of_get h3
  refine ⟨fun z => (s.new _ z).elim h1 fun w => by omega, fun z => ?_, s.keep _ _ h3 h1 fun z => h2 (List.mem_append_right _ z)⟩
  rcases List.mem_append.mp z with z | z
  · exact h2 (List.mem_append_left _ z)
  · rcases hl _ z with z | z
    · exact h2 (List.mem_append_right _ z)
    · omega
theorem Vws.stepL {P P1 O L L1 : List Nat} {S S1 : Store} {ds : List D} {us : List U} (h : Vws P (O ++ L) S ds us) (s : Stp P L S P1 S1) (hl : ∀ a ∈ L1, a ∈ L ∨ S.length ≤ a) : Vws P1 (O ++ L1) S1 ds us := h.mono s (fun i h => List.mem_append_right _ h) fun i h => by
  rcases List.mem_append.mp h with h | h
  · exact .inl (List.mem_append_left _ h)
  · exact (hl i h).imp (fun h => List.mem_append_right _ h) fun h => h
theorem for_out {t : Tgt} {body : MS} {w : VS} {src : Src} [hb : SS body w ca] {N : Env → Prop} {R : U → Prop} {X : XE} {B C : Env → Prop} {O : List Nat} : ∀ (items : List D) (us : List U) (η : Env) (ρ : Sl) (K : Nat) (P L : List Nat) (S : Store),
    forV t w us η N R X → K + items.length * ca ≤ KM → Wd K P (O ++ L) S → Rel P O L η ρ S → Vws P (O ++ L) S items us → CellsOk P (O ++ L) S src → OutS (K + items.length * ca) P O L S (forL t body src items ρ S) N R X B C
  | [], us, η, ρ, K, P, L, S, q, hK, wd, r, v, ck => by
    cases v
    unfold forL
    rw [if_pos ck.ok]
    exact outS_next (wd.le (by omega)) r q
  | d :: ds, us, η, ρ, K, P, L, S, q, hK, wd, r, v, ck => by
    cases v with
    | @cons _ u _ us v1 v2 =>
      unfold forV at q
      split at q
      · exact q.elim
      · rename_i η1 hη
        obtain ⟨ρ1, e1, r1⟩ := r.asg t v1 hη
        unfold forL
        rw [if_pos ck.ok, e1]
        rw [List.length_cons, Nat.succ_mul] at hK ⊢
        have h := hb.ok η1 _ R X _ _ q K P O L ρ1 S (by omega) wd r1
        dsimp only
        generalize body ρ1 S = o at h ⊢
        cases o with
        | next ρ2 S2 =>
          obtain ⟨P', L', η', s, l', w', rl, q2⟩ := h
          exact ((for_out ds us η' ρ2 _ P' L' S2 q2 (by omega) w' rl (v2.stepL s l') (ck.stepL s l')).le (by omega)).from s l'
        | cont ρ2 S2 =>
          obtain ⟨P', L', η', s, l', w', rl, q2⟩ := h
          exact ((for_out ds us η' ρ2 _ P' L' S2 q2 (by omega) w' rl (v2.stepL s l') (ck.stepL s l')).le (by omega)).from s l'
        | brk ρ2 S2 => exact OutN.le h (by omega)
        | ret d S' => obtain ⟨P', u, s', w, z⟩ := h; exact ⟨P', u, s', w.le (by omega), z⟩
        | exc c d ρ' S' => obtain ⟨P', L', η', u, s', l', w, z⟩ := h; exact ⟨P', L', η', u, s', l', w.le (by omega), z⟩
        | no => exact h
instance {t : Tgt} {m : M Src} {body : MS} {vm : VT (List U)} {w : VS} [hm : SI m vm cc] [hb : SS body w ca] : SS (sFor t m body) (wFor t vm w) (cc + 4611686018427387904 * ca) := ⟨fun η N R X B C q K P O L ρ S hK wd r => by
  refine OutS.bindR (hm.ok η _ _ q K P O L ρ S (by omega) wd r) r (by omega) fun src us P1 S1 s1 w1 v1 q1 => ?_
  have hl : src.items.length ≤ 4611686018427387904 := by rw [v1.1.length]; exact q1.1
  have hm : src.items.length * ca ≤ 4611686018427387904 * ca := Nat.mul_le_mul_right _ hl
  exact (for_out src.items us η ρ _ P1 L S1 q1.2 (by omega) w1 (r.step s1) v1.1 v1.2).le (by omega)⟩
theorem wh_out {c : M Bool} {body : MS} {vc : VT Bool} {w : VS} [hc : ST c vc cc] [hb : SS body w ca] {N : Env → Prop} {R : U → Prop} {X : XE} {B C : Env → Prop} {O : List Nat} : ∀ (n : Nat) (η : Env) (ρ : Sl) (K : Nat) (P L : List Nat) (S : Store),
    whV vc w n η N R X → K + n * (cc + ca) ≤ KM → Wd K P (O ++ L) S → Rel P O L η ρ S → OutS (K + n * (cc + ca)) P O L S (whL c body n ρ S) N R X B C
  | 0, η, ρ, K, P, L, S, q, hK, wd, r => q.elim
  | n + 1, η, ρ, K, P, L, S, q, hK, wd, r => by
    unfold whV at q
    unfold whL
    rw [Nat.succ_mul] at hK ⊢
    refine OutS.bindR (hc.ok η _ _ q K P O L ρ S (by omega) wd r) r (by omega) fun b b' P1 S1 s1 w1 e q1 => ?_
    cases e
    cases b
    · simp only [Bool.false_eq_true, if_false] at q1 ⊢
      exact outS_next (w1.le (by omega)) (r.step s1) q1
    · simp only [if_true] at q1 ⊢
      have h := hb.ok η _ R X _ _ q1 _ P1 O L ρ S1 (by omega) w1 (r.step s1)
      generalize body ρ S1 = o at h ⊢
      cases o with
      | next ρ2 S2 =>
        obtain ⟨P', L', η', s, l', w', rl, q2⟩ := h
        exact ((wh_out n η' ρ2 _ P' L' S2 q2 (by omega) w' rl).le (by omega)).from s l'
      | cont ρ2 S2 =>
        obtain ⟨P', L', η', s, l', w', rl, q2⟩ := h
        exact ((wh_out n η' ρ2 _ P' L' S2 q2 (by omega) w' rl).le (by omega)).from s l'
      | brk ρ2 S2 => exact OutN.le h (by omega)
      | ret d S' => obtain ⟨P', u, s', w, z⟩ := h; exact ⟨P', u, s', w.le (by omega), z⟩
      | exc c d ρ' S' => obtain ⟨P', L', η', u, s', l', w, z⟩ := h; exact ⟨P', L', η', u, s', l', w.le (by omega), z⟩
      | no => exact h
instance {c : M Bool} {body : MS} {n : Nat} {vc : VT Bool} {w : VS} [hc : ST c vc cc] [hb : SS body w ca] : SS (whL c body n) (wWh vc w n) (n * (cc + ca)) := ⟨fun η N R X B C q K P O L ρ S hK wd r => wh_out n η ρ K P L S q hK wd r⟩
/-! try -/
theorem Rel.app {P O L : List Nat} {η : Env} {ρ : Sl} {S T : Store} (r : Rel P O L η ρ S) : Rel P O L η ρ (S ++ T) := r.step Stp.app
instance {cat : Str → Option Bool} {i : Nat} {b s : MS} {wb ws : VS} [hb : SS b wb ca] [hs : SS s ws cb] : SS (sTry cat i b s) (wTry cat i wb ws) (ca + cb) := ⟨fun η N R X B C q K P O L ρ S hK wd r => by
  have h := hb.ok η _ _ _ _ _ q K P O L ρ S (by omega) wd r
  unfold sTry
  generalize b ρ S = o at h ⊢
  cases o with
  | next ρ2 S2 => exact OutN.le h (by omega)
  | cont ρ2 S2 => exact OutN.le h (by omega)
  | brk ρ2 S2 => exact OutN.le h (by omega)
  | ret d S' => obtain ⟨P', u, s', w, z⟩ := h; exact ⟨P', u, s', w.le (by omega), z⟩
  | no => exact h
  | exc c d ρ1 S1 =>
    obtain ⟨P1, L1, η1, u, s1, l1, w1, r1, v1, q1⟩ := h
    dsimp only
    cases hcat : cat c with
    | none => rw [hcat] at q1; exact q1.elim
    | some t =>
      rw [hcat] at q1
      cases t
      · exact ⟨P1, L1, η1, u, s1, l1, w1.le (by omega), r1, v1, q1⟩
      · dsimp only at q1 ⊢
        have w2 : Wd (K + ca) P1 (O ++ L1) (S1 ++ [Cell.exc c d]) := w1.app (below_le (by omega) _ (v1.bel w1.pl))
        have v2 : Vw P1 (O ++ L1) (S1 ++ [Cell.exc c d]) (.ref S1.length) (.exc c u) := .exc (fun z => by have := w1.pl _ z; omega) (fun z => by have := w1.xl _ z; omega) (by simp) v1.app
        have h2 := hs.ok _ _ _ _ _ _ q1 _ P1 O L1 _ _ (by omega) w2 ((r1.app).setV v2)
        have st : Stp P1 L1 S1 P1 (S1 ++ [Cell.exc c d]) := Stp.app
        have l2 : ∀ a ∈ L1, a ∈ L1 ∨ S1.length ≤ a := fun a h => .inl h
        generalize s (ρ1.set i (some (.ref S1.length))) (S1 ++ [Cell.exc c d]) = o2 at h2 ⊢
        have un : ∀ {ρ2 : Sl} {S2 : Store} {Z : Env → Prop}, OutN (K + ca + cb) P1 O L1 (S1 ++ [Cell.exc c d]) ρ2 S2 (fun η2 => Z (η2.set i .un)) → OutN (K + (ca + cb)) P O L S (ρ2.set i none) S2 Z := fun h => by
          obtain ⟨P', L', η', s', l', w', rl, q2⟩ := h
          exact OutN.of s1 l1 (OutN.of st l2 ⟨P', L', _, s', l', w'.le (by omega), rl.setU, q2⟩)
        cases o2 with
        | next ρ2 S2 => exact un h2
        | cont ρ2 S2 => exact un h2
        | brk ρ2 S2 => exact un h2
        | ret d S' =>
          obtain ⟨P', u, s', w, z⟩ := h2
          exact ⟨P', u, s1.trans (st.trans s' l2) l1, w.le (by omega), z⟩
        | exc c d ρ' S' => obtain ⟨P', L', η', u, s', l', w, _, _, z⟩ := h2; exact z.elim
        | no => exact h2⟩
end
end MI

set_option Elab.async false
set_option linter.all false
set_option maxRecDepth 100000
set_option maxHeartbeats 1000000
/-! # Texts as what they do with values: lists that one slot holds, defs -/
namespace MI
open PySem PySem.Spec PyProof.Rows L2
/-- a new list at a place of its own -/
def OutF (K : Nat) (P X : List Nat) (S : Store) (r : Res D) (Q : List U → Prop) (E : Str → U → Prop) : Prop := match r with
  | .ok d S' => ∃ P' us a ds, d = .ref a ∧ S.length ≤ a ∧ Stp P [] S P' S' ∧ Wd K P' X S' ∧ a ∉ P' ∧ S'[a]? = some (.lst ds) ∧ Vws P' (a :: X) S' ds us ∧ Q us
  | .exc c d S' => ∃ P' u, Stp P [] S P' S' ∧ Wd K P' X S' ∧ Vw P' X S' d u ∧ E c u
  | .no => False
class SW (m : M D) (v : outParam (VT (List U))) (c : outParam Nat) : Prop where
  ok : ∀ η Q E, v η Q E → ∀ K P O L ρ S, K + c ≤ KM → Wd K P (O ++ L) S → Rel P O L η ρ S → OutF (K + c) P (O ++ L) S (m ρ S) Q E
section
variable {α β : Type} {R : RT α β} {K K1 K2 : Nat} {P P1 X : List Nat} {S S1 : Store} {r : Res α} {Q1 : β → Prop} {Q : List U → Prop} {E : Str → U → Prop}
theorem OutF.from {r : Res D} (s : Stp P [] S P1 S1) (h : OutF K P1 X S1 r Q E) : OutF K P X S r Q E := by
  cases r with
  | ok a S' => obtain ⟨P', us, b, ds, e, l, s', z⟩ := h; exact ⟨P', us, b, ds, e, Nat.le_trans s.len l, s.trans s' (fun _ h => by cases h), z⟩
  | exc c d S' => obtain ⟨P', b, s', z⟩ := h; exact ⟨P', b, s.trans s' (fun _ h => by cases h), z⟩
  | no => exact h
theorem OutF.le {r : Res D} (h : OutF K1 P X S r Q E) (l : K1 ≤ K2) : OutF K2 P X S r Q E := by
  cases r with
  | ok a S' => obtain ⟨P', us, b, ds, e, l1, s', w, z⟩ := h; exact ⟨P', us, b, ds, e, l1, s', w.le l, z⟩
  | exc c d S' => obtain ⟨P', b, s', w, z⟩ := h; exact ⟨P', b, s', w.le l, z⟩
  | no => exact h
theorem Out.bindF {k : α → Store → Res D} (h : Out R K1 P X S r Q1 E) (l : K1 ≤ K2) (hk : ∀ a b P1 S1, Stp P [] S P1 S1 → Wd K1 P1 X S1 → R P1 X S1 a b → Q1 b → OutF K2 P1 X S1 (k a S1) Q E) : OutF K2 P X S (r.bind k) Q E := by
  cases r with
  | ok a S' => obtain ⟨P', b, s, w, v, q⟩ := h; exact (hk a b P' S' s w v q).from s
  | exc c d S' => obtain ⟨P', b, s, w, z⟩ := h; exact ⟨P', b, s, w.le l, z⟩
  | no => exact h
theorem gof_lst {ds : List D} {us : List U} (w : Wd K P X S) (v : Vws P X S ds us) (q : Q us) : OutF K P X S (.ok (.ref S.length) (S ++ [.lst ds])) Q E :=
  ⟨P, us, S.length, ds, rfl, Nat.le_refl _, Stp.app, w.app (belows_le (by omega) _ (v.bels w.pl)), fun z => by have := w.pl _ z; omega, by simp, v.mono (L := []) Stp.app (fun _ h => by cases h) fun i h => by
    rcases List.mem_cons.mp h with h | h
    · exact .inr (by omega)
    · exact .inl h, q⟩
end
def vFLst (v : VT (List U)) : VT (List U) := fun η Q E => v η (fun xs => xs.length ≤ 16777216 ∧ Q xs) E
def vFList (v : VT (List U)) : VT (List U) := fun η Q E => v η (fun xs => match xs with
  | [u] => match seqU u with
    | some us => Q us
    | none => False
  | _ => False) E
def vFMul (a b : VT U) : VT (List U) := fun η Q E => a η (fun x => b η (fun y => match x, y with
  | .lst xs, .int k => (xs.length * k.toNat ≤ 16777216 ∧ k.natAbs < 2 ^ 60) ∧ Q (List.replicate k.toNat xs).flatten
  | _, _ => False) E) E
section
variable {ca cb cc : Nat}
instance {m : M (List D)} {v : VT (List U)} [h : SA m v ca] : SW (mApp gLst m) (vFLst v) ca := ⟨fun η Q E q K P O L ρ S hK w r => by
  refine Out.bindF (h.ok η _ _ q K P O L ρ S (by omega) w r) (by omega) fun ds us P1 S1 s1 w1 v1 q1 => ?_
  unfold gLst
  rw [if_pos (by rw [v1.length]; exact q1.1)]
  exact gof_lst w1 v1 q1.2⟩
instance {m : M (List D)} {v : VT (List U)} [h : SA m v ca] : SW (mBox m) v ca := ⟨fun η Q E q K P O L ρ S hK w r => by
  refine Out.bindF (h.ok η _ _ q K P O L ρ S (by omega) w r) (by omega) fun ds us P1 S1 s1 w1 v1 q1 => ?_
  exact gof_lst w1 v1 q1⟩
instance {m : M (List D)} {v : VT (List U)} [h : SA m v ca] : SW (mApp gList m) (vFList v) ca := ⟨fun η Q E q K P O L ρ S hK w r => by
  refine Out.bindF (h.ok η _ _ q K P O L ρ S (by omega) w r) (by omega) fun ds us P1 S1 s1 w1 v1 q1 => ?_
  split at q1
  · split at q1
    · rename_i u us hs
      obtain ⟨d, rfl, v2⟩ := v1.one
      obtain ⟨ds, e, hv⟩ := v2.seq hs
      unfold gList
      simp only [e]
      exact gof_lst w1 hv q1
    · exact q1.elim
  · exact q1.elim⟩
instance {a b : M D} {va vb : VT U} [ha : SE a va ca] [hb : SE b vb cb] : SW (mOp gMul a b) (vFMul va vb) (ca + cb) := ⟨fun η Q E q K P O L ρ S hK w r => by
  refine Out.bindF (ha.ok η _ _ q K P O L ρ S (by omega) w r) (by omega) fun d u P1 S1 s1 w1 v1 q1 => ?_
  refine Out.bindF (hb.ok η _ _ q1 _ P1 O L ρ S1 (by omega) w1 (r.step s1)) (by omega) fun d2 u2 P2 S2 s2 w2 v2 q2 => ?_
  have v1' := v1.step s2
  split at q2
  · rename_i us k
    obtain ⟨i, ds, rfl, _, _, e, hv⟩ := v1'.lst_inv
    rw [v2.int_inv]
    unfold gMul
    simp only [e]
    rw [if_pos (by rw [hv.length]; exact q2.1)]
    exact (gof_lst w2 (hv.rep _) q2.2).le (by omega)
  · exact q2.elim⟩
theorem mem_ol {a b : Nat} {O L : List Nat} : b ∈ O ++ a :: L ↔ b = a ∨ b ∈ O ++ L := by simp only [List.mem_append, List.mem_cons]; constructor <;> rintro (h | h | h) <;> simp_all
theorem Rel.setO {P O L P' : List Nat} {η : Env} {ρ : Sl} {S S' : Store} {i a : Nat} {ds : List D} {us : List U} (wd : Wd 0 [] (O ++ L) S) (r : Rel P O L η ρ S) (s : Stp P [] S P' S') (ha : S.length ≤ a) (hp : a ∉ P') (e : S'[a]? = some (.lst ds)) (v : Vws P' (O ++ a :: L) S' ds us) :
    Rel P' O (a :: L) (η.set i (.ow us)) (ρ.set i (some (.ref a))) S' := by
  have key : ∀ (j : Nat) (x : UO), (η.set i (.ow us))[j]? = some x → (j = i ∧ x = .ow us ∧ j < η.length) ∨ (j ≠ i ∧ η[j]? = some x) := fun j x h => by
    by_cases hj : j = i
    · subst hj
      have hl := lt_of_get h
      rw [List.length_set] at hl
      rw [List.getElem?_set_self hl] at h
      cases h
      exact .inl ⟨rfl, rfl, hl⟩
    · rw [List.getElem?_set_ne (Ne.symm hj)] at h
      exact .inr ⟨hj, h⟩
  have hX : ∀ b ∈ O ++ a :: L, b ∈ O ++ L ∨ S.length ≤ b := fun b h => by
    rcases mem_ol.mp h with h | h
    · exact .inr (by omega)
    · exact .inl h
  refine ⟨by simp [r.len], fun j t h => ?_, fun j ws h => ?_, fun j k ws vs b hjk h1 h2 h3 => ?_, fun b hb => ?_⟩
  · rcases key j _ h with ⟨rfl, e, hl⟩ | ⟨hj, h⟩
    · cases e
    · rw [List.getElem?_set_ne (Ne.symm hj)]
      obtain ⟨d, e1, v1⟩ := r.va j t h
      exact ⟨d, e1, v1.mono s (fun _ h => by cases h) hX⟩
  · rcases key j _ h with ⟨rfl, e1, hl⟩ | ⟨hj, h⟩
    · cases e1
      exact ⟨a, ds, by rw [List.getElem?_set_self (by rw [← r.len]; exact hl)], by simp, hp, e, v⟩
    · rw [List.getElem?_set_ne (Ne.symm hj)]
      obtain ⟨b, es, e1, hl, hpb, hs, v1⟩ := r.ow j ws h
      have := lt_of_get hs
      exact ⟨b, es, e1, List.mem_cons_of_mem _ hl, fun z => (s.new b z).elim hpb fun w => by omega, s.keep b _ hs hpb (by simp), v1.mono s (fun _ h => by cases h) hX⟩
  · rcases key j _ h1 with ⟨rfl, e1, hl⟩ | ⟨hj, h1⟩
    · rw [List.getElem?_set_self (by rw [← r.len]; exact hl)] at h3
      cases h3
      rcases key k _ h2 with ⟨hk, e2, _⟩ | ⟨hk, h2⟩
      · exact absurd hk.symm hjk
      · rw [List.getElem?_set_ne (Ne.symm hk)]
        obtain ⟨b, es, e1, _, _, hs, _⟩ := r.ow k vs h2
        rw [e1]
        intro z
        cases z
        have := lt_of_get hs
        omega
    · rw [List.getElem?_set_ne (Ne.symm hj)] at h3
      rcases key k _ h2 with ⟨hki, e2, hl⟩ | ⟨hk, h2⟩
      · rw [hki, List.getElem?_set_self (by rw [← r.len, ← hki]; exact hl)]
        obtain ⟨b', es, e1, _, _, hs, _⟩ := r.ow j ws h1
        rw [h3] at e1
        cases e1
        intro z
        cases z
        have := lt_of_get hs
        omega
      · rw [List.getElem?_set_ne (Ne.symm hk)]
        exact r.dis j k ws vs b hjk h1 h2 h3
  · rcases List.mem_cons.mp hb with h | h
    · subst h
      intro z
      have := wd.xl b (List.mem_append_left _ z)
      omega
    · exact r.dj b h
instance {i : Nat} {m : M D} {v : VT (List U)} [h : SW m v ca] : SS (sOwn i m) (wOwn i v) ca := ⟨fun η N R X B C q K P O L ρ S hK w r => by
  have o := h.ok η _ _ q K P O L ρ S hK w r
  unfold sOwn sAsg
  cases hm : m ρ S with
  | ok d S' =>
    rw [hm] at o
    obtain ⟨P', us, a, ds, rfl, hl, s, w', hp, e, v, q'⟩ := o
    have wx : ∀ b ∈ O ++ a :: L, b < S'.length := fun b hb => by
      rcases mem_ol.mp hb with rfl | hb
      · exact lt_of_get e
      · exact w'.xl b hb
    exact ⟨P', a :: L, _, s.nilL, fun b hb => (List.mem_cons.mp hb).elim (fun h => .inr (by omega)) .inl, ⟨w'.jug, w'.cl, wx⟩, r.setO ⟨(fun _ h => (by cases h)), w.cl, w.xl⟩ s hl hp e (v.less fun b hb => by
      rcases mem_ol.mp hb with rfl | hb
      · exact List.mem_cons_self
      · exact List.mem_cons_of_mem _ hb), q'⟩
  | exc c d S' =>
    rw [hm] at o
    obtain ⟨P', u, s, w', v, q'⟩ := o
    exact ⟨P', L, η, u, s.nilL, fun a h => .inl h, w', r.step s, v, q'⟩
  | no => rw [hm] at o; exact o⟩
/-- handed on -/
theorem Rel.frz {P O L : List Nat} {η : Env} {ρ : Sl} {S : Store} {i : Nat} {us : List U} (r : Rel P O L η ρ S) (h : η[i]? = some (.ow us)) : ∃ L', (∀ a ∈ L', a ∈ L) ∧ Rel P O L' (η.set i (.va (.lst us))) ρ S := by
  obtain ⟨a, ds, e, hl, hp, hs, v⟩ := r.ow i us h
  have sub : ∀ b ∈ L.filter (fun b => decide (b ≠ a)), b ∈ L := fun b hb => (List.mem_filter.mp hb).1
  have hX : ∀ b ∈ O ++ L.filter (fun b => decide (b ≠ a)), b ∈ O ++ L := fun b hb => by
    rcases List.mem_append.mp hb with hb | hb
    · exact List.mem_append_left _ hb
    · exact List.mem_append_right _ (sub b hb)
  have key : ∀ (j : Nat) (x : UO), (η.set i (.va (.lst us)))[j]? = some x → (j = i ∧ x = .va (.lst us)) ∨ (j ≠ i ∧ η[j]? = some x) := fun j x h => by
    by_cases hj : j = i
    · subst hj
      have hl := lt_of_get h
      rw [List.length_set] at hl
      rw [List.getElem?_set_self hl] at h
      cases h
      exact .inl ⟨rfl, rfl⟩
    · rw [List.getElem?_set_ne (Ne.symm hj)] at h
      exact .inr ⟨hj, h⟩
  refine ⟨_, sub, by simp [r.len], fun j t hj => ?_, fun j ws hj => ?_, fun j k ws vs b hjk h1 h2 h3 => ?_, fun b hb => r.dj b (sub b hb)⟩
  · rcases key j _ hj with ⟨rfl, e1⟩ | ⟨hne, hj⟩
    · cases e1
      refine ⟨_, e, .lst hp (fun z => ?_) hs (v.less hX)⟩
      rcases List.mem_append.mp z with z | z
      · exact r.dj a hl z
      · have := (List.mem_filter.mp z).2
        simp at this
    · obtain ⟨d, e1, v1⟩ := r.va j t hj
      exact ⟨d, e1, v1.less hX⟩
  · rcases key j _ hj with ⟨rfl, e1⟩ | ⟨hne, hj⟩
    · cases e1
    · obtain ⟨b, es, e1, hl1, hpb, hs1, v1⟩ := r.ow j ws hj
      have hba : b ≠ a := fun z => by
        subst z
        exact r.dis i j us ws b (Ne.symm hne) h hj e e1
      exact ⟨b, es, e1, List.mem_filter.mpr ⟨hl1, by simpa using hba⟩, hpb, hs1, v1.less hX⟩
  · rcases key j _ h1 with ⟨_, e1⟩ | ⟨_, h1⟩
    · cases e1
    · rcases key k _ h2 with ⟨_, e1⟩ | ⟨_, h2⟩
      · cases e1
      · exact r.dis j k ws vs b hjk h1 h2 h3
instance {i : Nat} {s : MS} {w : VS} [hs : SS s w ca] : SS (sFrz i s) (wFrz i w) ca := ⟨fun η N R X B C q K P O L ρ S hK wd r => by
  unfold wFrz at q
  split at q
  · rename_i us h
    obtain ⟨L', hL, r'⟩ := r.frz h
    have hX : ∀ b ∈ O ++ L', b ∈ O ++ L := fun b hb => by
      rcases List.mem_append.mp hb with hb | hb
      · exact List.mem_append_left _ hb
      · exact List.mem_append_right _ (hL b hb)
    have o := hs.ok _ _ _ _ _ _ q K P O L' ρ S hK (wd.less hX) r'
    exact o.from Stp.refl fun a h => .inl (hL a h)
  · exact hs.ok _ _ _ _ _ _ q K P O L ρ S hK wd r⟩
/-- the list of slot i gets other things -/
theorem Rel.putO {P O L : List Nat} {η : Env} {ρ : Sl} {S : Store} {i a : Nat} {us us' : List U} {ds' : List D} (r : Rel P O L η ρ S) (h : η[i]? = some (.ow us)) (e : ρ[i]? = some (some (.ref a))) (hs : ∃ c, S[a]? = some c) (hl : a ∈ L) (hp : a ∉ P) (v : Vws P (O ++ L) S ds' us') :
    Stp P L S P (S.set a (.lst ds')) ∧ Rel P O L (η.set i (.ow us')) ρ (S.set a (.lst ds')) := by
  have st : Stp P L S P (S.set a (.lst ds')) := ⟨fun _ h => h, fun _ h => .inl h, fun j c hj _ hjL => by rw [List.getElem?_set_ne (fun z : a = j => hjL (by rw [← z]; exact hl))]; exact hj, by simp⟩
  have lt : a < S.length := by obtain ⟨c, hc⟩ := hs; exact lt_of_get hc
  have key : ∀ (j : Nat) (x : UO), (η.set i (.ow us'))[j]? = some x → (j = i ∧ x = .ow us') ∨ (j ≠ i ∧ η[j]? = some x) := fun j x h => by
    by_cases hj : j = i
    · subst hj
      have hl := lt_of_get h
      rw [List.length_set] at hl
      rw [List.getElem?_set_self hl] at h
      cases h
      exact .inl ⟨rfl, rfl⟩
    · rw [List.getElem?_set_ne (Ne.symm hj)] at h
      exact .inr ⟨hj, h⟩
  have hLX : ∀ b ∈ L, b ∈ O ++ L := fun b hb => List.mem_append_right _ hb
  refine ⟨st, by simp [r.len], fun j t hj => ?_, fun j ws hj => ?_, fun j k ws vs b hjk h1 h2 h3 => ?_, r.dj⟩
  · rcases key j _ hj with ⟨rfl, e1⟩ | ⟨hne, hj⟩
    · cases e1
    · obtain ⟨d, e1, v1⟩ := r.va j t hj
      exact ⟨d, e1, v1.mono st hLX fun _ h => .inl h⟩
  · rcases key j _ hj with ⟨rfl, e1⟩ | ⟨hne, hj⟩
    · cases e1
      exact ⟨a, ds', e, hl, hp, by rw [List.getElem?_set_self lt], v.mono st hLX fun _ h => .inl h⟩
    · obtain ⟨b, es, e1, hl1, hpb, hs1, v1⟩ := r.ow j ws hj
      have hba : a ≠ b := fun z => by
        subst z
        exact r.dis i j us ws a (Ne.symm hne) h hj e e1
      exact ⟨b, es, e1, hl1, hpb, by rw [List.getElem?_set_ne hba]; exact hs1, v1.mono st hLX fun _ h => .inl h⟩
  · rcases key j _ h1 with ⟨rfl, _⟩ | ⟨hj, h1⟩
    · rcases key k _ h2 with ⟨hk, _⟩ | ⟨_, h2⟩
      · exact absurd hk.symm hjk
      · exact r.dis j k us vs b hjk h h2 h3
    · rcases key k _ h2 with ⟨hki, _⟩ | ⟨_, h2⟩
      · rw [hki] at hjk ⊢
        exact r.dis j i ws us b hjk h1 h h3
      · exact r.dis j k ws vs b hjk h1 h2 h3
theorem Wd.set {K : Nat} {P X : List Nat} {S : Store} {a : Nat} {c : Cell} (w : Wd K P X S) (hp : a ∉ P) (hc : cellBelow S.length c = true) : Wd K P X (S.set a c) :=
  ⟨fun i hi => by
    obtain ⟨x, y, z, e, q⟩ := w.jug i hi
    exact ⟨x, y, z, by rw [List.getElem?_set_ne (fun h : a = i => hp (by rw [h]; exact hi))]; exact e, q⟩, w.cl.set hc, fun b hb => by rw [List.length_set]; exact w.xl b hb⟩
theorem mV_of {ρ : Sl} {i : Nat} {d : D} {S : Store} (e : ρ[i]? = some (some d)) : mV i ρ S = .ok d S := by
  unfold mV
  rw [e]
instance {i : Nat} {m : M D} {v : VT U} [h : SE m v ca] : SS (sAppO i m) (wAppO i v) ca := ⟨fun η N R X B C q K P O L ρ S hK w r => by
  unfold wAppO at q
  split at q
  · rename_i us hi
    obtain ⟨a, ds, e, hl, hp, hs, hv⟩ := r.ow i us hi
    have e1 : sAppO i m ρ S = SR.bindR (m ρ S) ρ fun d S1 => SR.bindR (gApp (.ref a) [d] S1) ρ fun _ S2 => .next ρ S2 := by
      unfold sAppO sExpr mMt
      rw [mV_of e]
      show SR.bindR (if isLst (.ref a) S = true then _ else _) ρ _ = _
      have : isLst (.ref a) S = true := by unfold isLst; simp only [hs]
      rw [if_pos this]
      unfold mCons mNil
      cases m ρ S <;> rfl
    rw [e1]
    refine OutS.bindR (h.ok η _ _ q.2 K P O L ρ S (by omega) w r) r (by omega) fun d u P1 S1 s1 w1 v1 q1 => ?_
    obtain ⟨a', ds', e', hl', hp', hs', hv'⟩ := (r.step s1).ow i us hi
    rw [e] at e'
    cases e'
    have e2 : gApp (.ref a) [d] S1 = .ok .non (S1.set a (.lst (ds' ++ [d]))) := by
      unfold gApp
      simp only [hs']
      rw [if_pos (by rw [hv'.length]; exact q.1)]
    rw [e2]
    have vv : Vws P1 (O ++ L) S1 (ds' ++ [d]) (us ++ [u]) := hv'.cat (.cons v1 .nil)
    obtain ⟨st, r2⟩ := (r.step s1).putO hi e ⟨_, hs'⟩ hl hp' vv
    exact ⟨P1, L, _, st, fun _ h => .inl h, w1.set hp' (vv.bels w1.pl), r2, q1⟩
  · exact q.elim⟩
instance {i : Nat} {mk m : M D} {vk v : VT U} [h : SE m v ca] [hk : SE mk vk cb] : SS (sSetO i mk m) (wSetO i vk v) (ca + cb) := ⟨fun η N R X B C q K P O L ρ S hK w r => by
  unfold wSetO at q
  split at q
  · rename_i us hi
    obtain ⟨a, ds, e, hl, hp, hs, hv⟩ := r.ow i us hi
    unfold sSetO sSet
    refine OutS.bindR (h.ok η _ _ q K P O L ρ S (by omega) w r) r (by omega) fun d u P1 S1 s1 w1 v1 q1 => ?_
    rw [mV_of e]
    show OutS _ _ _ _ _ (SR.bindR (mk ρ S1) ρ _) _ _ _ _ _
    refine OutS.bindR (hk.ok η _ _ q1 _ P1 O L ρ S1 (by omega) w1 (r.step s1)) (r.step s1) (by omega) fun d2 u2 P2 S2 s2 w2 v2 q2 => ?_
    have r2 := (r.step s1).step s2
    obtain ⟨a', ds', e', hl', hp', hs', hv'⟩ := r2.ow i us hi
    rw [e] at e'
    cases e'
    split at q2
    · rename_i j
      split at q2
      · rename_i n hn
        rw [v2.int_inv]
        have e2 : gSet (.ref a) (.int j) d S2 = .ok () (S2.set a (.lst (ds'.set n d))) := by
          unfold gSet
          simp only [hs', hv'.length, hn]
        rw [e2]
        have vv : Vws P2 (O ++ L) S2 (ds'.set n d) (us.set n u) := hv'.set (v1.step s2) n
        obtain ⟨st, r3⟩ := r2.putO hi e ⟨_, hs'⟩ hl hp' vv
        exact ⟨P2, L, _, st, fun _ h => .inl h, (w2.set (c := .lst (ds'.set n d)) hp' (vv.bels w2.pl)).le (by omega), r3, q2⟩
      · exact q2.elim
    · exact q2.elim
  · exact q.elim⟩
instance {i : Nat} {mk : M D} {vk : VT U} [hk : SE mk vk cb] : SE (mIxO i mk) (vIxO i vk) cb := ⟨fun η Q E q K P O L ρ S hK w r => by
  unfold vIxO at q
  split at q
  · rename_i us hi
    obtain ⟨a, ds, e, hl, hp, hs, hv⟩ := r.ow i us hi
    unfold mIxO mOp
    rw [mV_of e]
    show Out _ _ _ _ _ ((mk ρ S).bind _) _ _
    refine Out.bind (hk.ok η _ _ q K P O L ρ S (by omega) w r) (by omega) fun d2 u2 P2 S2 s2 w2 v2 q2 => ?_
    obtain ⟨a', ds', e', hl', hp', hs', hv'⟩ := (r.step s2).ow i us hi
    rw [e] at e'
    cases e'
    split at q2
    · rename_i j
      split at q2
      · rename_i u hu
        obtain ⟨d, e3, v3⟩ := hv'.atI hu
        rw [v2.int_inv]
        have e4 : gIx (.ref a) (.int j) S2 = .ok d S2 := by
          unfold gIx seqOf
          simp only [hs', e3]
        rw [e4]
        exact Out.ok w2 v3 q2
      · exact q2.elim
    · exact q2.elim
  · exact q.elim⟩
/-! ### defs -/
theorem start_rel {P X : List Nat} {S : Store} {n : Nat} {ds : List D} {us : List U} (v : Vws P X S ds us) : Rel P X [] (us.map UO.va ++ List.replicate (n - us.length) .un) (ds.map some ++ List.replicate (n - ds.length) none) S := by
  have hl := v.length
  have key : ∀ (i : Nat) (x : UO), (us.map UO.va ++ List.replicate (n - us.length) .un)[i]? = some x → x = .un ∨ ∃ u, us[i]? = some u ∧ x = .va u ∧ i < us.length := fun i x h => by
    by_cases hi : i < us.length
    · rw [List.getElem?_append_left (by simpa using hi), List.getElem?_map, List.getElem?_eq_getElem hi] at h
      simp at h
      exact .inr ⟨_, List.getElem?_eq_getElem hi, h.symm, hi⟩
    · rw [List.getElem?_append_right (by simp; omega)] at h
      have := List.mem_of_getElem? h
      exact .inl (List.eq_of_mem_replicate this)
  refine ⟨by simp [hl], fun i u h => ?_, fun i ws h => ?_, fun i j ws vs a hij h => ?_, fun _ h => (by cases h)⟩
  · rcases key i _ h with h | ⟨u', h1, h2, hi⟩
    · cases h
    · cases h2
      obtain ⟨d, e, w⟩ := v.get h1
      refine ⟨d, ?_, by rw [List.append_nil]; exact w⟩
      rw [List.getElem?_append_left (by simp; omega), List.getElem?_map, e]
      rfl
  · rcases key i _ h with h | ⟨u', h1, h2, hi⟩
    · cases h
    · cases h2
  · rcases key i _ h with h | ⟨u', h1, h2, hi⟩
    · cases h
    · cases h2
instance {n : Nat} {b : MS} {w : VS} [h : SS b w ca] : SF (fnOf n b) (wFn n w) ca := ⟨fun us Q E q K P X S ds hK wd v => by
  have o := h.ok _ _ _ _ _ _ q K P X [] _ S hK (by rw [List.append_nil]; exact wd) (start_rel v)
  unfold fnOf
  generalize b (ds.map some ++ List.replicate (n - ds.length) none) S = r at o ⊢
  cases r with
  | next ρ' S' =>
    obtain ⟨P', L', η', s, l', w', _, q'⟩ := o
    obtain ⟨P2, S2, d2, e, s2, w2, v2⟩ := ret_vw (K' := K + ca) wd (w'.less fun i h => mem_app_l h) s (Vw.non (P := P') (X := X) (S := S'))
    show Out RV _ P X S (retOf S .non S') Q E
    rw [e]
    exact ⟨P2, _, s2, w2, v2, q'⟩
  | ret d S' =>
    obtain ⟨P', u, s, w', v', q'⟩ := o
    obtain ⟨P2, S2, d2, e, s2, w2, v2⟩ := ret_vw (K' := K + ca) wd w' s v'
    show Out RV _ P X S (retOf S d S') Q E
    rw [e]
    exact ⟨P2, _, s2, w2, v2, q'⟩
  | exc c d ρ' S' =>
    obtain ⟨P', L', η', u, s, l', w', _, v', q'⟩ := o
    obtain ⟨P2, S2, d2, e, s2, w2, v2⟩ := exc_vw (c := c) (K' := K + ca) wd (w'.less fun i h => mem_app_l h) s (v'.less fun i h => mem_app_l h)
    show Out RV _ P X S (excOf S c d S') Q E
    rw [e]
    exact ⟨P2, _, s2, w2, v2, q'⟩
  | brk ρ' S' => obtain ⟨_, _, _, _, _, _, _, z⟩ := o; exact z.elim
  | cont ρ' S' => obtain ⟨_, _, _, _, _, _, _, z⟩ := o; exact z.elim
  | no => exact o.elim⟩
theorem SF.weak {f : List D → Store → Res D} {h : VFT} {c c' : Nat} (k : SF f h c) (l : c ≤ c') : SF f h c' := ⟨fun us Q E q K P X S ds hK wd v => (k.ok us Q E q K P X S ds (by omega) wd v).le (by omega)⟩
theorem SF.zero {f : List D → Store → Res D} : SF f (fun _ _ _ => False) 0 := ⟨fun us Q E q => q.elim⟩
/-- the law -/
theorem SF.law {f : List D → Store → Res D} {h : VFT} {c : Nat} (k : SF f h c) (l : c ≤ KM) {ns : List Int} (q : h [.fro (ns.map U.int)] (fun u => u = .bl true) noE) : ∃ S, f [.fro (ns.map D.int)] [] = .ok (.bl true) S := by
  have vs : ∀ ns : List Int, Vws [] [] [] (ns.map D.int) (ns.map U.int) := fun ns => by
    induction ns with
    | nil => exact .nil
    | cons n ns ih => exact .cons (.int n) ih
  have o := k.ok _ _ _ q 0 [] [] [] [.fro (ns.map D.int)] (by omega) ⟨(fun _ h => (by cases h)), (fun i c h => (by simp at h)), (fun _ h => (by cases h))⟩ (.cons (.fro (vs ns)) .nil)
  cases hf : f [.fro (ns.map D.int)] [] with
  | ok d S =>
    rw [hf] at o
    obtain ⟨P', u, _, _, v, rfl⟩ := o
    exact ⟨S, by rw [Vw.bl_inv v]⟩
  | exc c d S => rw [hf] at o; obtain ⟨_, _, _, _, _, z⟩ := o; exact z.elim
  | no => rw [hf] at o; exact o.elim
end
end MI

set_option Elab.async false
set_option linter.all false
set_option maxRecDepth 100000
set_option maxHeartbeats 1000000
/-! # Words over values, worked out -/
namespace MI
open PySem PySem.Spec PyProof.Rows L2
section
variable {η : Env} {Q : U → Prop} {E : Str → U → Prop} {N B C : Env → Prop} {R : U → Prop} {X : XE} {u x y z : U}
@[simp] theorem xV0 {r : Env} : vV 0 (.va u :: r) Q E = Q u := id rfl
@[simp] theorem xFa0 {r : Env} {w : VS} : wFrz 0 w (.va u :: r) N R X B C = w (.va u :: r) N R X B C := id rfl
@[simp] theorem xFo0 {r : Env} {w : VS} {us : List U} : wFrz 0 w (.ow us :: r) N R X B C = w (.va (.lst us) :: r) N R X B C := id rfl
@[simp] theorem xAp0 {r : Env} {v : VT U} {us : List U} : wAppO 0 v (.ow us :: r) N R X B C = (us.length < 16777216 ∧ v (.ow us :: r) (fun u => N (.ow (us ++ [u]) :: r)) (fun c u => X c u (.ow us :: r))) := id rfl
@[simp] theorem xSe0 {r : Env} {k v : VT U} {us : List U} : wSetO 0 k v (.ow us :: r) N R X B C = v (.ow us :: r) (fun u => k (.ow us :: r) (fun j => match j with
  | .int j => match ixN us.length j with
    | some n => N (.ow (us.set n u) :: r)
    | none => False
  | _ => False) (fun c u => X c u (.ow us :: r))) (fun c u => X c u (.ow us :: r)) := id rfl
@[simp] theorem xIo0 {r : Env} {v : VT U} {us : List U} : vIxO 0 v (.ow us :: r) Q E = v (.ow us :: r) (fun j => match j with
  | .int j => match L2.atI us j with
    | some u => Q u
    | none => False
  | _ => False) E := id rfl
@[simp] theorem xV1 {r : Env} {a0 : UO} : vV 1 (a0 :: .va u :: r) Q E = Q u := id rfl
@[simp] theorem xFa1 {r : Env} {a0 : UO} {w : VS} : wFrz 1 w (a0 :: .va u :: r) N R X B C = w (a0 :: .va u :: r) N R X B C := id rfl
@[simp] theorem xFo1 {r : Env} {a0 : UO} {w : VS} {us : List U} : wFrz 1 w (a0 :: .ow us :: r) N R X B C = w (a0 :: .va (.lst us) :: r) N R X B C := id rfl
@[simp] theorem xAp1 {r : Env} {a0 : UO} {v : VT U} {us : List U} : wAppO 1 v (a0 :: .ow us :: r) N R X B C = (us.length < 16777216 ∧ v (a0 :: .ow us :: r) (fun u => N (a0 :: .ow (us ++ [u]) :: r)) (fun c u => X c u (a0 :: .ow us :: r))) := id rfl
@[simp] theorem xSe1 {r : Env} {a0 : UO} {k v : VT U} {us : List U} : wSetO 1 k v (a0 :: .ow us :: r) N R X B C = v (a0 :: .ow us :: r) (fun u => k (a0 :: .ow us :: r) (fun j => match j with
  | .int j => match ixN us.length j with
    | some n => N (a0 :: .ow (us.set n u) :: r)
    | none => False
  | _ => False) (fun c u => X c u (a0 :: .ow us :: r))) (fun c u => X c u (a0 :: .ow us :: r)) := id rfl
@[simp] theorem xIo1 {r : Env} {a0 : UO} {v : VT U} {us : List U} : vIxO 1 v (a0 :: .ow us :: r) Q E = v (a0 :: .ow us :: r) (fun j => match j with
  | .int j => match L2.atI us j with
    | some u => Q u
    | none => False
  | _ => False) E := id rfl
@[simp] theorem xV2 {r : Env} {a0 a1 : UO} : vV 2 (a0 :: a1 :: .va u :: r) Q E = Q u := id rfl
@[simp] theorem xFa2 {r : Env} {a0 a1 : UO} {w : VS} : wFrz 2 w (a0 :: a1 :: .va u :: r) N R X B C = w (a0 :: a1 :: .va u :: r) N R X B C := id rfl
@[simp] theorem xFo2 {r : Env} {a0 a1 : UO} {w : VS} {us : List U} : wFrz 2 w (a0 :: a1 :: .ow us :: r) N R X B C = w (a0 :: a1 :: .va (.lst us) :: r) N R X B C := id rfl
@[simp] theorem xAp2 {r : Env} {a0 a1 : UO} {v : VT U} {us : List U} : wAppO 2 v (a0 :: a1 :: .ow us :: r) N R X B C = (us.length < 16777216 ∧ v (a0 :: a1 :: .ow us :: r) (fun u => N (a0 :: a1 :: .ow (us ++ [u]) :: r)) (fun c u => X c u (a0 :: a1 :: .ow us :: r))) := id rfl
@[simp] theorem xSe2 {r : Env} {a0 a1 : UO} {k v : VT U} {us : List U} : wSetO 2 k v (a0 :: a1 :: .ow us :: r) N R X B C = v (a0 :: a1 :: .ow us :: r) (fun u => k (a0 :: a1 :: .ow us :: r) (fun j => match j with
  | .int j => match ixN us.length j with
    | some n => N (a0 :: a1 :: .ow (us.set n u) :: r)
    | none => False
  | _ => False) (fun c u => X c u (a0 :: a1 :: .ow us :: r))) (fun c u => X c u (a0 :: a1 :: .ow us :: r)) := id rfl
@[simp] theorem xIo2 {r : Env} {a0 a1 : UO} {v : VT U} {us : List U} : vIxO 2 v (a0 :: a1 :: .ow us :: r) Q E = v (a0 :: a1 :: .ow us :: r) (fun j => match j with
  | .int j => match L2.atI us j with
    | some u => Q u
    | none => False
  | _ => False) E := id rfl
@[simp] theorem xV3 {r : Env} {a0 a1 a2 : UO} : vV 3 (a0 :: a1 :: a2 :: .va u :: r) Q E = Q u := id rfl
@[simp] theorem xFa3 {r : Env} {a0 a1 a2 : UO} {w : VS} : wFrz 3 w (a0 :: a1 :: a2 :: .va u :: r) N R X B C = w (a0 :: a1 :: a2 :: .va u :: r) N R X B C := id rfl
@[simp] theorem xFo3 {r : Env} {a0 a1 a2 : UO} {w : VS} {us : List U} : wFrz 3 w (a0 :: a1 :: a2 :: .ow us :: r) N R X B C = w (a0 :: a1 :: a2 :: .va (.lst us) :: r) N R X B C := id rfl
@[simp] theorem xAp3 {r : Env} {a0 a1 a2 : UO} {v : VT U} {us : List U} : wAppO 3 v (a0 :: a1 :: a2 :: .ow us :: r) N R X B C = (us.length < 16777216 ∧ v (a0 :: a1 :: a2 :: .ow us :: r) (fun u => N (a0 :: a1 :: a2 :: .ow (us ++ [u]) :: r)) (fun c u => X c u (a0 :: a1 :: a2 :: .ow us :: r))) := id rfl
@[simp] theorem xSe3 {r : Env} {a0 a1 a2 : UO} {k v : VT U} {us : List U} : wSetO 3 k v (a0 :: a1 :: a2 :: .ow us :: r) N R X B C = v (a0 :: a1 :: a2 :: .ow us :: r) (fun u => k (a0 :: a1 :: a2 :: .ow us :: r) (fun j => match j with
  | .int j => match ixN us.length j with
    | some n => N (a0 :: a1 :: a2 :: .ow (us.set n u) :: r)
    | none => False
  | _ => False) (fun c u => X c u (a0 :: a1 :: a2 :: .ow us :: r))) (fun c u => X c u (a0 :: a1 :: a2 :: .ow us :: r)) := id rfl
@[simp] theorem xIo3 {r : Env} {a0 a1 a2 : UO} {v : VT U} {us : List U} : vIxO 3 v (a0 :: a1 :: a2 :: .ow us :: r) Q E = v (a0 :: a1 :: a2 :: .ow us :: r) (fun j => match j with
  | .int j => match L2.atI us j with
    | some u => Q u
    | none => False
  | _ => False) E := id rfl
@[simp] theorem xV4 {r : Env} {a0 a1 a2 a3 : UO} : vV 4 (a0 :: a1 :: a2 :: a3 :: .va u :: r) Q E = Q u := id rfl
@[simp] theorem xFa4 {r : Env} {a0 a1 a2 a3 : UO} {w : VS} : wFrz 4 w (a0 :: a1 :: a2 :: a3 :: .va u :: r) N R X B C = w (a0 :: a1 :: a2 :: a3 :: .va u :: r) N R X B C := id rfl
@[simp] theorem xFo4 {r : Env} {a0 a1 a2 a3 : UO} {w : VS} {us : List U} : wFrz 4 w (a0 :: a1 :: a2 :: a3 :: .ow us :: r) N R X B C = w (a0 :: a1 :: a2 :: a3 :: .va (.lst us) :: r) N R X B C := id rfl
@[simp] theorem xAp4 {r : Env} {a0 a1 a2 a3 : UO} {v : VT U} {us : List U} : wAppO 4 v (a0 :: a1 :: a2 :: a3 :: .ow us :: r) N R X B C = (us.length < 16777216 ∧ v (a0 :: a1 :: a2 :: a3 :: .ow us :: r) (fun u => N (a0 :: a1 :: a2 :: a3 :: .ow (us ++ [u]) :: r)) (fun c u => X c u (a0 :: a1 :: a2 :: a3 :: .ow us :: r))) := id rfl
@[simp] theorem xSe4 {r : Env} {a0 a1 a2 a3 : UO} {k v : VT U} {us : List U} : wSetO 4 k v (a0 :: a1 :: a2 :: a3 :: .ow us :: r) N R X B C = v (a0 :: a1 :: a2 :: a3 :: .ow us :: r) (fun u => k (a0 :: a1 :: a2 :: a3 :: .ow us :: r) (fun j => match j with
  | .int j => match ixN us.length j with
    | some n => N (a0 :: a1 :: a2 :: a3 :: .ow (us.set n u) :: r)
    | none => False
  | _ => False) (fun c u => X c u (a0 :: a1 :: a2 :: a3 :: .ow us :: r))) (fun c u => X c u (a0 :: a1 :: a2 :: a3 :: .ow us :: r)) := id rfl
@[simp] theorem xIo4 {r : Env} {a0 a1 a2 a3 : UO} {v : VT U} {us : List U} : vIxO 4 v (a0 :: a1 :: a2 :: a3 :: .ow us :: r) Q E = v (a0 :: a1 :: a2 :: a3 :: .ow us :: r) (fun j => match j with
  | .int j => match L2.atI us j with
    | some u => Q u
    | none => False
  | _ => False) E := id rfl
@[simp] theorem xV5 {r : Env} {a0 a1 a2 a3 a4 : UO} : vV 5 (a0 :: a1 :: a2 :: a3 :: a4 :: .va u :: r) Q E = Q u := id rfl
@[simp] theorem xFa5 {r : Env} {a0 a1 a2 a3 a4 : UO} {w : VS} : wFrz 5 w (a0 :: a1 :: a2 :: a3 :: a4 :: .va u :: r) N R X B C = w (a0 :: a1 :: a2 :: a3 :: a4 :: .va u :: r) N R X B C := id rfl
@[simp] theorem xFo5 {r : Env} {a0 a1 a2 a3 a4 : UO} {w : VS} {us : List U} : wFrz 5 w (a0 :: a1 :: a2 :: a3 :: a4 :: .ow us :: r) N R X B C = w (a0 :: a1 :: a2 :: a3 :: a4 :: .va (.lst us) :: r) N R X B C := id rfl
@[simp] theorem xAp5 {r : Env} {a0 a1 a2 a3 a4 : UO} {v : VT U} {us : List U} : wAppO 5 v (a0 :: a1 :: a2 :: a3 :: a4 :: .ow us :: r) N R X B C = (us.length < 16777216 ∧ v (a0 :: a1 :: a2 :: a3 :: a4 :: .ow us :: r) (fun u => N (a0 :: a1 :: a2 :: a3 :: a4 :: .ow (us ++ [u]) :: r)) (fun c u => X c u (a0 :: a1 :: a2 :: a3 :: a4 :: .ow us :: r))) := id rfl
@[simp] theorem xSe5 {r : Env} {a0 a1 a2 a3 a4 : UO} {k v : VT U} {us : List U} : wSetO 5 k v (a0 :: a1 :: a2 :: a3 :: a4 :: .ow us :: r) N R X B C = v (a0 :: a1 :: a2 :: a3 :: a4 :: .ow us :: r) (fun u => k (a0 :: a1 :: a2 :: a3 :: a4 :: .ow us :: r) (fun j => match j with
  | .int j => match ixN us.length j with
    | some n => N (a0 :: a1 :: a2 :: a3 :: a4 :: .ow (us.set n u) :: r)
    | none => False
  | _ => False) (fun c u => X c u (a0 :: a1 :: a2 :: a3 :: a4 :: .ow us :: r))) (fun c u => X c u (a0 :: a1 :: a2 :: a3 :: a4 :: .ow us :: r)) := id rfl
@[simp] theorem xIo5 {r : Env} {a0 a1 a2 a3 a4 : UO} {v : VT U} {us : List U} : vIxO 5 v (a0 :: a1 :: a2 :: a3 :: a4 :: .ow us :: r) Q E = v (a0 :: a1 :: a2 :: a3 :: a4 :: .ow us :: r) (fun j => match j with
  | .int j => match L2.atI us j with
    | some u => Q u
    | none => False
  | _ => False) E := id rfl
@[simp] theorem xV6 {r : Env} {a0 a1 a2 a3 a4 a5 : UO} : vV 6 (a0 :: a1 :: a2 :: a3 :: a4 :: a5 :: .va u :: r) Q E = Q u := id rfl
@[simp] theorem xFa6 {r : Env} {a0 a1 a2 a3 a4 a5 : UO} {w : VS} : wFrz 6 w (a0 :: a1 :: a2 :: a3 :: a4 :: a5 :: .va u :: r) N R X B C = w (a0 :: a1 :: a2 :: a3 :: a4 :: a5 :: .va u :: r) N R X B C := id rfl
@[simp] theorem xFo6 {r : Env} {a0 a1 a2 a3 a4 a5 : UO} {w : VS} {us : List U} : wFrz 6 w (a0 :: a1 :: a2 :: a3 :: a4 :: a5 :: .ow us :: r) N R X B C = w (a0 :: a1 :: a2 :: a3 :: a4 :: a5 :: .va (.lst us) :: r) N R X B C := id rfl
@[simp] theorem xAp6 {r : Env} {a0 a1 a2 a3 a4 a5 : UO} {v : VT U} {us : List U} : wAppO 6 v (a0 :: a1 :: a2 :: a3 :: a4 :: a5 :: .ow us :: r) N R X B C = (us.length < 16777216 ∧ v (a0 :: a1 :: a2 :: a3 :: a4 :: a5 :: .ow us :: r) (fun u => N (a0 :: a1 :: a2 :: a3 :: a4 :: a5 :: .ow (us ++ [u]) :: r)) (fun c u => X c u (a0 :: a1 :: a2 :: a3 :: a4 :: a5 :: .ow us :: r))) := id rfl
@[simp] theorem xSe6 {r : Env} {a0 a1 a2 a3 a4 a5 : UO} {k v : VT U} {us : List U} : wSetO 6 k v (a0 :: a1 :: a2 :: a3 :: a4 :: a5 :: .ow us :: r) N R X B C = v (a0 :: a1 :: a2 :: a3 :: a4 :: a5 :: .ow us :: r) (fun u => k (a0 :: a1 :: a2 :: a3 :: a4 :: a5 :: .ow us :: r) (fun j => match j with
  | .int j => match ixN us.length j with
    | some n => N (a0 :: a1 :: a2 :: a3 :: a4 :: a5 :: .ow (us.set n u) :: r)
    | none => False
  | _ => False) (fun c u => X c u (a0 :: a1 :: a2 :: a3 :: a4 :: a5 :: .ow us :: r))) (fun c u => X c u (a0 :: a1 :: a2 :: a3 :: a4 :: a5 :: .ow us :: r)) := id rfl
@[simp] theorem xIo6 {r : Env} {a0 a1 a2 a3 a4 a5 : UO} {v : VT U} {us : List U} : vIxO 6 v (a0 :: a1 :: a2 :: a3 :: a4 :: a5 :: .ow us :: r) Q E = v (a0 :: a1 :: a2 :: a3 :: a4 :: a5 :: .ow us :: r) (fun j => match j with
  | .int j => match L2.atI us j with
    | some u => Q u
    | none => False
  | _ => False) E := id rfl
@[simp] theorem xV7 {r : Env} {a0 a1 a2 a3 a4 a5 a6 : UO} : vV 7 (a0 :: a1 :: a2 :: a3 :: a4 :: a5 :: a6 :: .va u :: r) Q E = Q u := id rfl
@[simp] theorem xFa7 {r : Env} {a0 a1 a2 a3 a4 a5 a6 : UO} {w : VS} : wFrz 7 w (a0 :: a1 :: a2 :: a3 :: a4 :: a5 :: a6 :: .va u :: r) N R X B C = w (a0 :: a1 :: a2 :: a3 :: a4 :: a5 :: a6 :: .va u :: r) N R X B C := id rfl
@[simp] theorem xFo7 {r : Env} {a0 a1 a2 a3 a4 a5 a6 : UO} {w : VS} {us : List U} : wFrz 7 w (a0 :: a1 :: a2 :: a3 :: a4 :: a5 :: a6 :: .ow us :: r) N R X B C = w (a0 :: a1 :: a2 :: a3 :: a4 :: a5 :: a6 :: .va (.lst us) :: r) N R X B C := id rfl
@[simp] theorem xAp7 {r : Env} {a0 a1 a2 a3 a4 a5 a6 : UO} {v : VT U} {us : List U} : wAppO 7 v (a0 :: a1 :: a2 :: a3 :: a4 :: a5 :: a6 :: .ow us :: r) N R X B C = (us.length < 16777216 ∧ v (a0 :: a1 :: a2 :: a3 :: a4 :: a5 :: a6 :: .ow us :: r) (fun u => N (a0 :: a1 :: a2 :: a3 :: a4 :: a5 :: a6 :: .ow (us ++ [u]) :: r)) (fun c u => X c u (a0 :: a1 :: a2 :: a3 :: a4 :: a5 :: a6 :: .ow us :: r))) := id rfl
@[simp] theorem xSe7 {r : Env} {a0 a1 a2 a3 a4 a5 a6 : UO} {k v : VT U} {us : List U} : wSetO 7 k v (a0 :: a1 :: a2 :: a3 :: a4 :: a5 :: a6 :: .ow us :: r) N R X B C = v (a0 :: a1 :: a2 :: a3 :: a4 :: a5 :: a6 :: .ow us :: r) (fun u => k (a0 :: a1 :: a2 :: a3 :: a4 :: a5 :: a6 :: .ow us :: r) (fun j => match j with
  | .int j => match ixN us.length j with
    | some n => N (a0 :: a1 :: a2 :: a3 :: a4 :: a5 :: a6 :: .ow (us.set n u) :: r)
    | none => False
  | _ => False) (fun c u => X c u (a0 :: a1 :: a2 :: a3 :: a4 :: a5 :: a6 :: .ow us :: r))) (fun c u => X c u (a0 :: a1 :: a2 :: a3 :: a4 :: a5 :: a6 :: .ow us :: r)) := id rfl
@[simp] theorem xIo7 {r : Env} {a0 a1 a2 a3 a4 a5 a6 : UO} {v : VT U} {us : List U} : vIxO 7 v (a0 :: a1 :: a2 :: a3 :: a4 :: a5 :: a6 :: .ow us :: r) Q E = v (a0 :: a1 :: a2 :: a3 :: a4 :: a5 :: a6 :: .ow us :: r) (fun j => match j with
  | .int j => match L2.atI us j with
    | some u => Q u
    | none => False
  | _ => False) E := id rfl
@[simp] theorem xV8 {r : Env} {a0 a1 a2 a3 a4 a5 a6 a7 : UO} : vV 8 (a0 :: a1 :: a2 :: a3 :: a4 :: a5 :: a6 :: a7 :: .va u :: r) Q E = Q u := id rfl
@[simp] theorem xFa8 {r : Env} {a0 a1 a2 a3 a4 a5 a6 a7 : UO} {w : VS} : wFrz 8 w (a0 :: a1 :: a2 :: a3 :: a4 :: a5 :: a6 :: a7 :: .va u :: r) N R X B C = w (a0 :: a1 :: a2 :: a3 :: a4 :: a5 :: a6 :: a7 :: .va u :: r) N R X B C := id rfl
@[simp] theorem xFo8 {r : Env} {a0 a1 a2 a3 a4 a5 a6 a7 : UO} {w : VS} {us : List U} : wFrz 8 w (a0 :: a1 :: a2 :: a3 :: a4 :: a5 :: a6 :: a7 :: .ow us :: r) N R X B C = w (a0 :: a1 :: a2 :: a3 :: a4 :: a5 :: a6 :: a7 :: .va (.lst us) :: r) N R X B C := id rfl
@[simp] theorem xAp8 {r : Env} {a0 a1 a2 a3 a4 a5 a6 a7 : UO} {v : VT U} {us : List U} : wAppO 8 v (a0 :: a1 :: a2 :: a3 :: a4 :: a5 :: a6 :: a7 :: .ow us :: r) N R X B C = (us.length < 16777216 ∧ v (a0 :: a1 :: a2 :: a3 :: a4 :: a5 :: a6 :: a7 :: .ow us :: r) (fun u => N (a0 :: a1 :: a2 :: a3 :: a4 :: a5 :: a6 :: a7 :: .ow (us ++ [u]) :: r)) (fun c u => X c u (a0 :: a1 :: a2 :: a3 :: a4 :: a5 :: a6 :: a7 :: .ow us :: r))) := id rfl
@[simp] theorem xSe8 {r : Env} {a0 a1 a2 a3 a4 a5 a6 a7 : UO} {k v : VT U} {us : List U} : wSetO 8 k v (a0 :: a1 :: a2 :: a3 :: a4 :: a5 :: a6 :: a7 :: .ow us :: r) N R X B C = v (a0 :: a1 :: a2 :: a3 :: a4 :: a5 :: a6 :: a7 :: .ow us :: r) (fun u => k (a0 :: a1 :: a2 :: a3 :: a4 :: a5 :: a6 :: a7 :: .ow us :: r) (fun j => match j with
  | .int j => match ixN us.length j with
    | some n => N (a0 :: a1 :: a2 :: a3 :: a4 :: a5 :: a6 :: a7 :: .ow (us.set n u) :: r)
    | none => False
  | _ => False) (fun c u => X c u (a0 :: a1 :: a2 :: a3 :: a4 :: a5 :: a6 :: a7 :: .ow us :: r))) (fun c u => X c u (a0 :: a1 :: a2 :: a3 :: a4 :: a5 :: a6 :: a7 :: .ow us :: r)) := id rfl
@[simp] theorem xIo8 {r : Env} {a0 a1 a2 a3 a4 a5 a6 a7 : UO} {v : VT U} {us : List U} : vIxO 8 v (a0 :: a1 :: a2 :: a3 :: a4 :: a5 :: a6 :: a7 :: .ow us :: r) Q E = v (a0 :: a1 :: a2 :: a3 :: a4 :: a5 :: a6 :: a7 :: .ow us :: r) (fun j => match j with
  | .int j => match L2.atI us j with
    | some u => Q u
    | none => False
  | _ => False) E := id rfl
@[simp] theorem xV9 {r : Env} {a0 a1 a2 a3 a4 a5 a6 a7 a8 : UO} : vV 9 (a0 :: a1 :: a2 :: a3 :: a4 :: a5 :: a6 :: a7 :: a8 :: .va u :: r) Q E = Q u := id rfl
@[simp] theorem xFa9 {r : Env} {a0 a1 a2 a3 a4 a5 a6 a7 a8 : UO} {w : VS} : wFrz 9 w (a0 :: a1 :: a2 :: a3 :: a4 :: a5 :: a6 :: a7 :: a8 :: .va u :: r) N R X B C = w (a0 :: a1 :: a2 :: a3 :: a4 :: a5 :: a6 :: a7 :: a8 :: .va u :: r) N R X B C := id rfl
@[simp] theorem xFo9 {r : Env} {a0 a1 a2 a3 a4 a5 a6 a7 a8 : UO} {w : VS} {us : List U} : wFrz 9 w (a0 :: a1 :: a2 :: a3 :: a4 :: a5 :: a6 :: a7 :: a8 :: .ow us :: r) N R X B C = w (a0 :: a1 :: a2 :: a3 :: a4 :: a5 :: a6 :: a7 :: a8 :: .va (.lst us) :: r) N R X B C := id rfl
@[simp] theorem xAp9 {r : Env} {a0 a1 a2 a3 a4 a5 a6 a7 a8 : UO} {v : VT U} {us : List U} : wAppO 9 v (a0 :: a1 :: a2 :: a3 :: a4 :: a5 :: a6 :: a7 :: a8 :: .ow us :: r) N R X B C = (us.length < 16777216 ∧ v (a0 :: a1 :: a2 :: a3 :: a4 :: a5 :: a6 :: a7 :: a8 :: .ow us :: r) (fun u => N (a0 :: a1 :: a2 :: a3 :: a4 :: a5 :: a6 :: a7 :: a8 :: .ow (us ++ [u]) :: r)) (fun c u => X c u (a0 :: a1 :: a2 :: a3 :: a4 :: a5 :: a6 :: a7 :: a8 :: .ow us :: r))) := id rfl
@[simp] theorem xSe9 {r : Env} {a0 a1 a2 a3 a4 a5 a6 a7 a8 : UO} {k v : VT U} {us : List U} : wSetO 9 k v (a0 :: a1 :: a2 :: a3 :: a4 :: a5 :: a6 :: a7 :: a8 :: .ow us :: r) N R X B C = v (a0 :: a1 :: a2 :: a3 :: a4 :: a5 :: a6 :: a7 :: a8 :: .ow us :: r) (fun u => k (a0 :: a1 :: a2 :: a3 :: a4 :: a5 :: a6 :: a7 :: a8 :: .ow us :: r) (fun j => match j with
  | .int j => match ixN us.length j with
    | some n => N (a0 :: a1 :: a2 :: a3 :: a4 :: a5 :: a6 :: a7 :: a8 :: .ow (us.set n u) :: r)
    | none => False
  | _ => False) (fun c u => X c u (a0 :: a1 :: a2 :: a3 :: a4 :: a5 :: a6 :: a7 :: a8 :: .ow us :: r))) (fun c u => X c u (a0 :: a1 :: a2 :: a3 :: a4 :: a5 :: a6 :: a7 :: a8 :: .ow us :: r)) := id rfl
@[simp] theorem xIo9 {r : Env} {a0 a1 a2 a3 a4 a5 a6 a7 a8 : UO} {v : VT U} {us : List U} : vIxO 9 v (a0 :: a1 :: a2 :: a3 :: a4 :: a5 :: a6 :: a7 :: a8 :: .ow us :: r) Q E = v (a0 :: a1 :: a2 :: a3 :: a4 :: a5 :: a6 :: a7 :: a8 :: .ow us :: r) (fun j => match j with
  | .int j => match L2.atI us j with
    | some u => Q u
    | none => False
  | _ => False) E := id rfl
@[simp] theorem xV10 {r : Env} {a0 a1 a2 a3 a4 a5 a6 a7 a8 a9 : UO} : vV 10 (a0 :: a1 :: a2 :: a3 :: a4 :: a5 :: a6 :: a7 :: a8 :: a9 :: .va u :: r) Q E = Q u := id rfl
@[simp] theorem xFa10 {r : Env} {a0 a1 a2 a3 a4 a5 a6 a7 a8 a9 : UO} {w : VS} : wFrz 10 w (a0 :: a1 :: a2 :: a3 :: a4 :: a5 :: a6 :: a7 :: a8 :: a9 :: .va u :: r) N R X B C = w (a0 :: a1 :: a2 :: a3 :: a4 :: a5 :: a6 :: a7 :: a8 :: a9 :: .va u :: r) N R X B C := id rfl
@[simp] theorem xFo10 {r : Env} {a0 a1 a2 a3 a4 a5 a6 a7 a8 a9 : UO} {w : VS} {us : List U} : wFrz 10 w (a0 :: a1 :: a2 :: a3 :: a4 :: a5 :: a6 :: a7 :: a8 :: a9 :: .ow us :: r) N R X B C = w (a0 :: a1 :: a2 :: a3 :: a4 :: a5 :: a6 :: a7 :: a8 :: a9 :: .va (.lst us) :: r) N R X B C := id rfl
@[simp] theorem xAp10 {r : Env} {a0 a1 a2 a3 a4 a5 a6 a7 a8 a9 : UO} {v : VT U} {us : List U} : wAppO 10 v (a0 :: a1 :: a2 :: a3 :: a4 :: a5 :: a6 :: a7 :: a8 :: a9 :: .ow us :: r) N R X B C = (us.length < 16777216 ∧ v (a0 :: a1 :: a2 :: a3 :: a4 :: a5 :: a6 :: a7 :: a8 :: a9 :: .ow us :: r) (fun u => N (a0 :: a1 :: a2 :: a3 :: a4 :: a5 :: a6 :: a7 :: a8 :: a9 :: .ow (us ++ [u]) :: r)) (fun c u => X c u (a0 :: a1 :: a2 :: a3 :: a4 :: a5 :: a6 :: a7 :: a8 :: a9 :: .ow us :: r))) := id rfl
@[simp] theorem xSe10 {r : Env} {a0 a1 a2 a3 a4 a5 a6 a7 a8 a9 : UO} {k v : VT U} {us : List U} : wSetO 10 k v (a0 :: a1 :: a2 :: a3 :: a4 :: a5 :: a6 :: a7 :: a8 :: a9 :: .ow us :: r) N R X B C = v (a0 :: a1 :: a2 :: a3 :: a4 :: a5 :: a6 :: a7 :: a8 :: a9 :: .ow us :: r) (fun u => k (a0 :: a1 :: a2 :: a3 :: a4 :: a5 :: a6 :: a7 :: a8 :: a9 :: .ow us :: r) (fun j => match j with
  | .int j => match ixN us.length j with
    | some n => N (a0 :: a1 :: a2 :: a3 :: a4 :: a5 :: a6 :: a7 :: a8 :: a9 :: .ow (us.set n u) :: r)
    | none => False
  | _ => False) (fun c u => X c u (a0 :: a1 :: a2 :: a3 :: a4 :: a5 :: a6 :: a7 :: a8 :: a9 :: .ow us :: r))) (fun c u => X c u (a0 :: a1 :: a2 :: a3 :: a4 :: a5 :: a6 :: a7 :: a8 :: a9 :: .ow us :: r)) := id rfl
@[simp] theorem xIo10 {r : Env} {a0 a1 a2 a3 a4 a5 a6 a7 a8 a9 : UO} {v : VT U} {us : List U} : vIxO 10 v (a0 :: a1 :: a2 :: a3 :: a4 :: a5 :: a6 :: a7 :: a8 :: a9 :: .ow us :: r) Q E = v (a0 :: a1 :: a2 :: a3 :: a4 :: a5 :: a6 :: a7 :: a8 :: a9 :: .ow us :: r) (fun j => match j with
  | .int j => match L2.atI us j with
    | some u => Q u
    | none => False
  | _ => False) E := id rfl
@[simp] theorem xV11 {r : Env} {a0 a1 a2 a3 a4 a5 a6 a7 a8 a9 a10 : UO} : vV 11 (a0 :: a1 :: a2 :: a3 :: a4 :: a5 :: a6 :: a7 :: a8 :: a9 :: a10 :: .va u :: r) Q E = Q u := id rfl
@[simp] theorem xFa11 {r : Env} {a0 a1 a2 a3 a4 a5 a6 a7 a8 a9 a10 : UO} {w : VS} : wFrz 11 w (a0 :: a1 :: a2 :: a3 :: a4 :: a5 :: a6 :: a7 :: a8 :: a9 :: a10 :: .va u :: r) N R X B C = w (a0 :: a1 :: a2 :: a3 :: a4 :: a5 :: a6 :: a7 :: a8 :: a9 :: a10 :: .va u :: r) N R X B C := id rfl
@[simp] theorem xFo11 {r : Env} {a0 a1 a2 a3 a4 a5 a6 a7 a8 a9 a10 : UO} {w : VS} {us : List U} : wFrz 11 w (a0 :: a1 :: a2 :: a3 :: a4 :: a5 :: a6 :: a7 :: a8 :: a9 :: a10 :: .ow us :: r) N R X B C = w (a0 :: a1 :: a2 :: a3 :: a4 :: a5 :: a6 :: a7 :: a8 :: a9 :: a10 :: .va (.lst us) :: r) N R X B C := id rfl
@[simp] theorem xAp11 {r : Env} {a0 a1 a2 a3 a4 a5 a6 a7 a8 a9 a10 : UO} {v : VT U} {us : List U} : wAppO 11 v (a0 :: a1 :: a2 :: a3 :: a4 :: a5 :: a6 :: a7 :: a8 :: a9 :: a10 :: .ow us :: r) N R X B C = (us.length < 16777216 ∧ v (a0 :: a1 :: a2 :: a3 :: a4 :: a5 :: a6 :: a7 :: a8 :: a9 :: a10 :: .ow us :: r) (fun u => N (a0 :: a1 :: a2 :: a3 :: a4 :: a5 :: a6 :: a7 :: a8 :: a9 :: a10 :: .ow (us ++ [u]) :: r)) (fun c u => X c u (a0 :: a1 :: a2 :: a3 :: a4 :: a5 :: a6 :: a7 :: a8 :: a9 :: a10 :: .ow us :: r))) := id rfl
@[simp] theorem xSe11 {r : Env} {a0 a1 a2 a3 a4 a5 a6 a7 a8 a9 a10 : UO} {k v : VT U} {us : List U} : wSetO 11 k v (a0 :: a1 :: a2 :: a3 :: a4 :: a5 :: a6 :: a7 :: a8 :: a9 :: a10 :: .ow us :: r) N R X B C = v (a0 :: a1 :: a2 :: a3 :: a4 :: a5 :: a6 :: a7 :: a8 :: a9 :: a10 :: .ow us :: r) (fun u => k (a0 :: a1 :: a2 :: a3 :: a4 :: a5 :: a6 :: a7 :: a8 :: a9 :: a10 :: .ow us :: r) (fun j => match j with
  | .int j => match ixN us.length j with
    | some n => N (a0 :: a1 :: a2 :: a3 :: a4 :: a5 :: a6 :: a7 :: a8 :: a9 :: a10 :: .ow (us.set n u) :: r)
    | none => False
  | _ => False) (fun c u => X c u (a0 :: a1 :: a2 :: a3 :: a4 :: a5 :: a6 :: a7 :: a8 :: a9 :: a10 :: .ow us :: r))) (fun c u => X c u (a0 :: a1 :: a2 :: a3 :: a4 :: a5 :: a6 :: a7 :: a8 :: a9 :: a10 :: .ow us :: r)) := id rfl
@[simp] theorem xIo11 {r : Env} {a0 a1 a2 a3 a4 a5 a6 a7 a8 a9 a10 : UO} {v : VT U} {us : List U} : vIxO 11 v (a0 :: a1 :: a2 :: a3 :: a4 :: a5 :: a6 :: a7 :: a8 :: a9 :: a10 :: .ow us :: r) Q E = v (a0 :: a1 :: a2 :: a3 :: a4 :: a5 :: a6 :: a7 :: a8 :: a9 :: a10 :: .ow us :: r) (fun j => match j with
  | .int j => match L2.atI us j with
    | some u => Q u
    | none => False
  | _ => False) E := id rfl
@[simp] theorem xV12 {r : Env} {a0 a1 a2 a3 a4 a5 a6 a7 a8 a9 a10 a11 : UO} : vV 12 (a0 :: a1 :: a2 :: a3 :: a4 :: a5 :: a6 :: a7 :: a8 :: a9 :: a10 :: a11 :: .va u :: r) Q E = Q u := id rfl
@[simp] theorem xFa12 {r : Env} {a0 a1 a2 a3 a4 a5 a6 a7 a8 a9 a10 a11 : UO} {w : VS} : wFrz 12 w (a0 :: a1 :: a2 :: a3 :: a4 :: a5 :: a6 :: a7 :: a8 :: a9 :: a10 :: a11 :: .va u :: r) N R X B C = w (a0 :: a1 :: a2 :: a3 :: a4 :: a5 :: a6 :: a7 :: a8 :: a9 :: a10 :: a11 :: .va u :: r) N R X B C := id rfl
@[simp] theorem xFo12 {r : Env} {a0 a1 a2 a3 a4 a5 a6 a7 a8 a9 a10 a11 : UO} {w : VS} {us : List U} : wFrz 12 w (a0 :: a1 :: a2 :: a3 :: a4 :: a5 :: a6 :: a7 :: a8 :: a9 :: a10 :: a11 :: .ow us :: r) N R X B C = w (a0 :: a1 :: a2 :: a3 :: a4 :: a5 :: a6 :: a7 :: a8 :: a9 :: a10 :: a11 :: .va (.lst us) :: r) N R X B C := id rfl
@[simp] theorem xAp12 {r : Env} {a0 a1 a2 a3 a4 a5 a6 a7 a8 a9 a10 a11 : UO} {v : VT U} {us : List U} : wAppO 12 v (a0 :: a1 :: a2 :: a3 :: a4 :: a5 :: a6 :: a7 :: a8 :: a9 :: a10 :: a11 :: .ow us :: r) N R X B C = (us.length < 16777216 ∧ v (a0 :: a1 :: a2 :: a3 :: a4 :: a5 :: a6 :: a7 :: a8 :: a9 :: a10 :: a11 :: .ow us :: r) (fun u => N (a0 :: a1 :: a2 :: a3 :: a4 :: a5 :: a6 :: a7 :: a8 :: a9 :: a10 :: a11 :: .ow (us ++ [u]) :: r)) (fun c u => X c u (a0 :: a1 :: a2 :: a3 :: a4 :: a5 :: a6 :: a7 :: a8 :: a9 :: a10 :: a11 :: .ow us :: r))) := id rfl
@[simp] theorem xSe12 {r : Env} {a0 a1 a2 a3 a4 a5 a6 a7 a8 a9 a10 a11 : UO} {k v : VT U} {us : List U} : wSetO 12 k v (a0 :: a1 :: a2 :: a3 :: a4 :: a5 :: a6 :: a7 :: a8 :: a9 :: a10 :: a11 :: .ow us :: r) N R X B C = v (a0 :: a1 :: a2 :: a3 :: a4 :: a5 :: a6 :: a7 :: a8 :: a9 :: a10 :: a11 :: .ow us :: r) (fun u => k (a0 :: a1 :: a2 :: a3 :: a4 :: a5 :: a6 :: a7 :: a8 :: a9 :: a10 :: a11 :: .ow us :: r) (fun j => match j with
  | .int j => match ixN us.length j with
    | some n => N (a0 :: a1 :: a2 :: a3 :: a4 :: a5 :: a6 :: a7 :: a8 :: a9 :: a10 :: a11 :: .ow (us.set n u) :: r)
    | none => False
  | _ => False) (fun c u => X c u (a0 :: a1 :: a2 :: a3 :: a4 :: a5 :: a6 :: a7 :: a8 :: a9 :: a10 :: a11 :: .ow us :: r))) (fun c u => X c u (a0 :: a1 :: a2 :: a3 :: a4 :: a5 :: a6 :: a7 :: a8 :: a9 :: a10 :: a11 :: .ow us :: r)) := id rfl
@[simp] theorem xIo12 {r : Env} {a0 a1 a2 a3 a4 a5 a6 a7 a8 a9 a10 a11 : UO} {v : VT U} {us : List U} : vIxO 12 v (a0 :: a1 :: a2 :: a3 :: a4 :: a5 :: a6 :: a7 :: a8 :: a9 :: a10 :: a11 :: .ow us :: r) Q E = v (a0 :: a1 :: a2 :: a3 :: a4 :: a5 :: a6 :: a7 :: a8 :: a9 :: a10 :: a11 :: .ow us :: r) (fun j => match j with
  | .int j => match L2.atI us j with
    | some u => Q u
    | none => False
  | _ => False) E := id rfl
@[simp] theorem xV13 {r : Env} {a0 a1 a2 a3 a4 a5 a6 a7 a8 a9 a10 a11 a12 : UO} : vV 13 (a0 :: a1 :: a2 :: a3 :: a4 :: a5 :: a6 :: a7 :: a8 :: a9 :: a10 :: a11 :: a12 :: .va u :: r) Q E = Q u := id rfl
@[simp] theorem xFa13 {r : Env} {a0 a1 a2 a3 a4 a5 a6 a7 a8 a9 a10 a11 a12 : UO} {w : VS} : wFrz 13 w (a0 :: a1 :: a2 :: a3 :: a4 :: a5 :: a6 :: a7 :: a8 :: a9 :: a10 :: a11 :: a12 :: .va u :: r) N R X B C = w (a0 :: a1 :: a2 :: a3 :: a4 :: a5 :: a6 :: a7 :: a8 :: a9 :: a10 :: a11 :: a12 :: .va u :: r) N R X B C := id rfl
@[simp] theorem xFo13 {r : Env} {a0 a1 a2 a3 a4 a5 a6 a7 a8 a9 a10 a11 a12 : UO} {w : VS} {us : List U} : wFrz 13 w (a0 :: a1 :: a2 :: a3 :: a4 :: a5 :: a6 :: a7 :: a8 :: a9 :: a10 :: a11 :: a12 :: .ow us :: r) N R X B C = w (a0 :: a1 :: a2 :: a3 :: a4 :: a5 :: a6 :: a7 :: a8 :: a9 :: a10 :: a11 :: a12 :: .va (.lst us) :: r) N R X B C := id rfl
@[simp] theorem xAp13 {r : Env} {a0 a1 a2 a3 a4 a5 a6 a7 a8 a9 a10 a11 a12 : UO} {v : VT U} {us : List U} : wAppO 13 v (a0 :: a1 :: a2 :: a3 :: a4 :: a5 :: a6 :: a7 :: a8 :: a9 :: a10 :: a11 :: a12 :: .ow us :: r) N R X B C = (us.length < 16777216 ∧ v (a0 :: a1 :: a2 :: a3 :: a4 :: a5 :: a6 :: a7 :: a8 :: a9 :: a10 :: a11 :: a12 :: .ow us :: r) (fun u => N (a0 :: a1 :: a2 :: a3 :: a4 :: a5 :: a6 :: a7 :: a8 :: a9 :: a10 :: a11 :: a12 :: .ow (us ++ [u]) :: r)) (fun c u => X c u (a0 :: a1 :: a2 :: a3 :: a4 :: a5 :: a6 :: a7 :: a8 :: a9 :: a10 :: a11 :: a12 :: .ow us :: r))) := id rfl
@[simp] theorem xSe13 {r : Env} {a0 a1 a2 a3 a4 a5 a6 a7 a8 a9 a10 a11 a12 : UO} {k v : VT U} {us : List U} : wSetO 13 k v (a0 :: a1 :: a2 :: a3 :: a4 :: a5 :: a6 :: a7 :: a8 :: a9 :: a10 :: a11 :: a12 :: .ow us :: r) N R X B C = v (a0 :: a1 :: a2 :: a3 :: a4 :: a5 :: a6 :: a7 :: a8 :: a9 :: a10 :: a11 :: a12 :: .ow us :: r) (fun u => k (a0 :: a1 :: a2 :: a3 :: a4 :: a5 :: a6 :: a7 :: a8 :: a9 :: a10 :: a11 :: a12 :: .ow us :: r) (fun j => match j with
  | .int j => match ixN us.length j with
    | some n => N (a0 :: a1 :: a2 :: a3 :: a4 :: a5 :: a6 :: a7 :: a8 :: a9 :: a10 :: a11 :: a12 :: .ow (us.set n u) :: r)
    | none => False
  | _ => False) (fun c u => X c u (a0 :: a1 :: a2 :: a3 :: a4 :: a5 :: a6 :: a7 :: a8 :: a9 :: a10 :: a11 :: a12 :: .ow us :: r))) (fun c u => X c u (a0 :: a1 :: a2 :: a3 :: a4 :: a5 :: a6 :: a7 :: a8 :: a9 :: a10 :: a11 :: a12 :: .ow us :: r)) := id rfl
@[simp] theorem xIo13 {r : Env} {a0 a1 a2 a3 a4 a5 a6 a7 a8 a9 a10 a11 a12 : UO} {v : VT U} {us : List U} : vIxO 13 v (a0 :: a1 :: a2 :: a3 :: a4 :: a5 :: a6 :: a7 :: a8 :: a9 :: a10 :: a11 :: a12 :: .ow us :: r) Q E = v (a0 :: a1 :: a2 :: a3 :: a4 :: a5 :: a6 :: a7 :: a8 :: a9 :: a10 :: a11 :: a12 :: .ow us :: r) (fun j => match j with
  | .int j => match L2.atI us j with
    | some u => Q u
    | none => False
  | _ => False) E := id rfl
@[simp] theorem xV14 {r : Env} {a0 a1 a2 a3 a4 a5 a6 a7 a8 a9 a10 a11 a12 a13 : UO} : vV 14 (a0 :: a1 :: a2 :: a3 :: a4 :: a5 :: a6 :: a7 :: a8 :: a9 :: a10 :: a11 :: a12 :: a13 :: .va u :: r) Q E = Q u := id rfl
@[simp] theorem xFa14 {r : Env} {a0 a1 a2 a3 a4 a5 a6 a7 a8 a9 a10 a11 a12 a13 : UO} {w : VS} : wFrz 14 w (a0 :: a1 :: a2 :: a3 :: a4 :: a5 :: a6 :: a7 :: a8 :: a9 :: a10 :: a11 :: a12 :: a13 :: .va u :: r) N R X B C = w (a0 :: a1 :: a2 :: a3 :: a4 :: a5 :: a6 :: a7 :: a8 :: a9 :: a10 :: a11 :: a12 :: a13 :: .va u :: r) N R X B C := id rfl
@[simp] theorem xFo14 {r : Env} {a0 a1 a2 a3 a4 a5 a6 a7 a8 a9 a10 a11 a12 a13 : UO} {w : VS} {us : List U} : wFrz 14 w (a0 :: a1 :: a2 :: a3 :: a4 :: a5 :: a6 :: a7 :: a8 :: a9 :: a10 :: a11 :: a12 :: a13 :: .ow us :: r) N R X B C = w (a0 :: a1 :: a2 :: a3 :: a4 :: a5 :: a6 :: a7 :: a8 :: a9 :: a10 :: a11 :: a12 :: a13 :: .va (.lst us) :: r) N R X B C := id rfl
@[simp] theorem xAp14 {r : Env} {a0 a1 a2 a3 a4 a5 a6 a7 a8 a9 a10 a11 a12 a13 : UO} {v : VT U} {us : List U} : wAppO 14 v (a0 :: a1 :: a2 :: a3 :: a4 :: a5 :: a6 :: a7 :: a8 :: a9 :: a10 :: a11 :: a12 :: a13 :: .ow us :: r) N R X B C = (us.length < 16777216 ∧ v (a0 :: a1 :: a2 :: a3 :: a4 :: a5 :: a6 :: a7 :: a8 :: a9 :: a10 :: a11 :: a12 :: a13 :: .ow us :: r) (fun u => N (a0 :: a1 :: a2 :: a3 :: a4 :: a5 :: a6 :: a7 :: a8 :: a9 :: a10 :: a11 :: a12 :: a13 :: .ow (us ++ [u]) :: r)) (fun c u => X c u (a0 :: a1 :: a2 :: a3 :: a4 :: a5 :: a6 :: a7 :: a8 :: a9 :: a10 :: a11 :: a12 :: a13 :: .ow us :: r))) := id rfl
@[simp] theorem xSe14 {r : Env} {a0 a1 a2 a3 a4 a5 a6 a7 a8 a9 a10 a11 a12 a13 : UO} {k v : VT U} {us : List U} : wSetO 14 k v (a0 :: a1 :: a2 :: a3 :: a4 :: a5 :: a6 :: a7 :: a8 :: a9 :: a10 :: a11 :: a12 :: a13 :: .ow us :: r) N R X B C = v (a0 :: a1 :: a2 :: a3 :: a4 :: a5 :: a6 :: a7 :: a8 :: a9 :: a10 :: a11 :: a12 :: a13 :: .ow us :: r) (fun u => k (a0 :: a1 :: a2 :: a3 :: a4 :: a5 :: a6 :: a7 :: a8 :: a9 :: a10 :: a11 :: a12 :: a13 :: .ow us :: r) (fun j => match j with
  | .int j => match ixN us.length j with
    | some n => N (a0 :: a1 :: a2 :: a3 :: a4 :: a5 :: a6 :: a7 :: a8 :: a9 :: a10 :: a11 :: a12 :: a13 :: .ow (us.set n u) :: r)
    | none => False
  | _ => False) (fun c u => X c u (a0 :: a1 :: a2 :: a3 :: a4 :: a5 :: a6 :: a7 :: a8 :: a9 :: a10 :: a11 :: a12 :: a13 :: .ow us :: r))) (fun c u => X c u (a0 :: a1 :: a2 :: a3 :: a4 :: a5 :: a6 :: a7 :: a8 :: a9 :: a10 :: a11 :: a12 :: a13 :: .ow us :: r)) := id rfl
@[simp] theorem xIo14 {r : Env} {a0 a1 a2 a3 a4 a5 a6 a7 a8 a9 a10 a11 a12 a13 : UO} {v : VT U} {us : List U} : vIxO 14 v (a0 :: a1 :: a2 :: a3 :: a4 :: a5 :: a6 :: a7 :: a8 :: a9 :: a10 :: a11 :: a12 :: a13 :: .ow us :: r) Q E = v (a0 :: a1 :: a2 :: a3 :: a4 :: a5 :: a6 :: a7 :: a8 :: a9 :: a10 :: a11 :: a12 :: a13 :: .ow us :: r) (fun j => match j with
  | .int j => match L2.atI us j with
    | some u => Q u
    | none => False
  | _ => False) E := id rfl
@[simp] theorem xV15 {r : Env} {a0 a1 a2 a3 a4 a5 a6 a7 a8 a9 a10 a11 a12 a13 a14 : UO} : vV 15 (a0 :: a1 :: a2 :: a3 :: a4 :: a5 :: a6 :: a7 :: a8 :: a9 :: a10 :: a11 :: a12 :: a13 :: a14 :: .va u :: r) Q E = Q u := id rfl
@[simp] theorem xFa15 {r : Env} {a0 a1 a2 a3 a4 a5 a6 a7 a8 a9 a10 a11 a12 a13 a14 : UO} {w : VS} : wFrz 15 w (a0 :: a1 :: a2 :: a3 :: a4 :: a5 :: a6 :: a7 :: a8 :: a9 :: a10 :: a11 :: a12 :: a13 :: a14 :: .va u :: r) N R X B C = w (a0 :: a1 :: a2 :: a3 :: a4 :: a5 :: a6 :: a7 :: a8 :: a9 :: a10 :: a11 :: a12 :: a13 :: a14 :: .va u :: r) N R X B C := id rfl
@[simp] theorem xFo15 {r : Env} {a0 a1 a2 a3 a4 a5 a6 a7 a8 a9 a10 a11 a12 a13 a14 : UO} {w : VS} {us : List U} : wFrz 15 w (a0 :: a1 :: a2 :: a3 :: a4 :: a5 :: a6 :: a7 :: a8 :: a9 :: a10 :: a11 :: a12 :: a13 :: a14 :: .ow us :: r) N R X B C = w (a0 :: a1 :: a2 :: a3 :: a4 :: a5 :: a6 :: a7 :: a8 :: a9 :: a10 :: a11 :: a12 :: a13 :: a14 :: .va (.lst us) :: r) N R X B C := id rfl
@[simp] theorem xAp15 {r : Env} {a0 a1 a2 a3 a4 a5 a6 a7 a8 a9 a10 a11 a12 a13 a14 : UO} {v : VT U} {us : List U} : wAppO 15 v (a0 :: a1 :: a2 :: a3 :: a4 :: a5 :: a6 :: a7 :: a8 :: a9 :: a10 :: a11 :: a12 :: a13 :: a14 :: .ow us :: r) N R X B C = (us.length < 16777216 ∧ v (a0 :: a1 :: a2 :: a3 :: a4 :: a5 :: a6 :: a7 :: a8 :: a9 :: a10 :: a11 :: a12 :: a13 :: a14 :: .ow us :: r) (fun u => N (a0 :: a1 :: a2 :: a3 :: a4 :: a5 :: a6 :: a7 :: a8 :: a9 :: a10 :: a11 :: a12 :: a13 :: a14 :: .ow (us ++ [u]) :: r)) (fun c u => X c u (a0 :: a1 :: a2 :: a3 :: a4 :: a5 :: a6 :: a7 :: a8 :: a9 :: a10 :: a11 :: a12 :: a13 :: a14 :: .ow us :: r))) := id rfl
@[simp] theorem xSe15 {r : Env} {a0 a1 a2 a3 a4 a5 a6 a7 a8 a9 a10 a11 a12 a13 a14 : UO} {k v : VT U} {us : List U} : wSetO 15 k v (a0 :: a1 :: a2 :: a3 :: a4 :: a5 :: a6 :: a7 :: a8 :: a9 :: a10 :: a11 :: a12 :: a13 :: a14 :: .ow us :: r) N R X B C = v (a0 :: a1 :: a2 :: a3 :: a4 :: a5 :: a6 :: a7 :: a8 :: a9 :: a10 :: a11 :: a12 :: a13 :: a14 :: .ow us :: r) (fun u => k (a0 :: a1 :: a2 :: a3 :: a4 :: a5 :: a6 :: a7 :: a8 :: a9 :: a10 :: a11 :: a12 :: a13 :: a14 :: .ow us :: r) (fun j => match j with
  | .int j => match ixN us.length j with
    | some n => N (a0 :: a1 :: a2 :: a3 :: a4 :: a5 :: a6 :: a7 :: a8 :: a9 :: a10 :: a11 :: a12 :: a13 :: a14 :: .ow (us.set n u) :: r)
    | none => False
  | _ => False) (fun c u => X c u (a0 :: a1 :: a2 :: a3 :: a4 :: a5 :: a6 :: a7 :: a8 :: a9 :: a10 :: a11 :: a12 :: a13 :: a14 :: .ow us :: r))) (fun c u => X c u (a0 :: a1 :: a2 :: a3 :: a4 :: a5 :: a6 :: a7 :: a8 :: a9 :: a10 :: a11 :: a12 :: a13 :: a14 :: .ow us :: r)) := id rfl
@[simp] theorem xIo15 {r : Env} {a0 a1 a2 a3 a4 a5 a6 a7 a8 a9 a10 a11 a12 a13 a14 : UO} {v : VT U} {us : List U} : vIxO 15 v (a0 :: a1 :: a2 :: a3 :: a4 :: a5 :: a6 :: a7 :: a8 :: a9 :: a10 :: a11 :: a12 :: a13 :: a14 :: .ow us :: r) Q E = v (a0 :: a1 :: a2 :: a3 :: a4 :: a5 :: a6 :: a7 :: a8 :: a9 :: a10 :: a11 :: a12 :: a13 :: a14 :: .ow us :: r) (fun j => match j with
  | .int j => match L2.atI us j with
    | some u => Q u
    | none => False
  | _ => False) E := id rfl
@[simp] theorem xV16 {r : Env} {a0 a1 a2 a3 a4 a5 a6 a7 a8 a9 a10 a11 a12 a13 a14 a15 : UO} : vV 16 (a0 :: a1 :: a2 :: a3 :: a4 :: a5 :: a6 :: a7 :: a8 :: a9 :: a10 :: a11 :: a12 :: a13 :: a14 :: a15 :: .va u :: r) Q E = Q u := id rfl
@[simp] theorem xFa16 {r : Env} {a0 a1 a2 a3 a4 a5 a6 a7 a8 a9 a10 a11 a12 a13 a14 a15 : UO} {w : VS} : wFrz 16 w (a0 :: a1 :: a2 :: a3 :: a4 :: a5 :: a6 :: a7 :: a8 :: a9 :: a10 :: a11 :: a12 :: a13 :: a14 :: a15 :: .va u :: r) N R X B C = w (a0 :: a1 :: a2 :: a3 :: a4 :: a5 :: a6 :: a7 :: a8 :: a9 :: a10 :: a11 :: a12 :: a13 :: a14 :: a15 :: .va u :: r) N R X B C := id rfl
@[simp] theorem xFo16 {r : Env} {a0 a1 a2 a3 a4 a5 a6 a7 a8 a9 a10 a11 a12 a13 a14 a15 : UO} {w : VS} {us : List U} : wFrz 16 w (a0 :: a1 :: a2 :: a3 :: a4 :: a5 :: a6 :: a7 :: a8 :: a9 :: a10 :: a11 :: a12 :: a13 :: a14 :: a15 :: .ow us :: r) N R X B C = w (a0 :: a1 :: a2 :: a3 :: a4 :: a5 :: a6 :: a7 :: a8 :: a9 :: a10 :: a11 :: a12 :: a13 :: a14 :: a15 :: .va (.lst us) :: r) N R X B C := id rfl
@[simp] theorem xAp16 {r : Env} {a0 a1 a2 a3 a4 a5 a6 a7 a8 a9 a10 a11 a12 a13 a14 a15 : UO} {v : VT U} {us : List U} : wAppO 16 v (a0 :: a1 :: a2 :: a3 :: a4 :: a5 :: a6 :: a7 :: a8 :: a9 :: a10 :: a11 :: a12 :: a13 :: a14 :: a15 :: .ow us :: r) N R X B C = (us.length < 16777216 ∧ v (a0 :: a1 :: a2 :: a3 :: a4 :: a5 :: a6 :: a7 :: a8 :: a9 :: a10 :: a11 :: a12 :: a13 :: a14 :: a15 :: .ow us :: r) (fun u => N (a0 :: a1 :: a2 :: a3 :: a4 :: a5 :: a6 :: a7 :: a8 :: a9 :: a10 :: a11 :: a12 :: a13 :: a14 :: a15 :: .ow (us ++ [u]) :: r)) (fun c u => X c u (a0 :: a1 :: a2 :: a3 :: a4 :: a5 :: a6 :: a7 :: a8 :: a9 :: a10 :: a11 :: a12 :: a13 :: a14 :: a15 :: .ow us :: r))) := id rfl
@[simp] theorem xSe16 {r : Env} {a0 a1 a2 a3 a4 a5 a6 a7 a8 a9 a10 a11 a12 a13 a14 a15 : UO} {k v : VT U} {us : List U} : wSetO 16 k v (a0 :: a1 :: a2 :: a3 :: a4 :: a5 :: a6 :: a7 :: a8 :: a9 :: a10 :: a11 :: a12 :: a13 :: a14 :: a15 :: .ow us :: r) N R X B C = v (a0 :: a1 :: a2 :: a3 :: a4 :: a5 :: a6 :: a7 :: a8 :: a9 :: a10 :: a11 :: a12 :: a13 :: a14 :: a15 :: .ow us :: r) (fun u => k (a0 :: a1 :: a2 :: a3 :: a4 :: a5 :: a6 :: a7 :: a8 :: a9 :: a10 :: a11 :: a12 :: a13 :: a14 :: a15 :: .ow us :: r) (fun j => match j with
  | .int j => match ixN us.length j with
    | some n => N (a0 :: a1 :: a2 :: a3 :: a4 :: a5 :: a6 :: a7 :: a8 :: a9 :: a10 :: a11 :: a12 :: a13 :: a14 :: a15 :: .ow (us.set n u) :: r)
    | none => False
  | _ => False) (fun c u => X c u (a0 :: a1 :: a2 :: a3 :: a4 :: a5 :: a6 :: a7 :: a8 :: a9 :: a10 :: a11 :: a12 :: a13 :: a14 :: a15 :: .ow us :: r))) (fun c u => X c u (a0 :: a1 :: a2 :: a3 :: a4 :: a5 :: a6 :: a7 :: a8 :: a9 :: a10 :: a11 :: a12 :: a13 :: a14 :: a15 :: .ow us :: r)) := id rfl
@[simp] theorem xIo16 {r : Env} {a0 a1 a2 a3 a4 a5 a6 a7 a8 a9 a10 a11 a12 a13 a14 a15 : UO} {v : VT U} {us : List U} : vIxO 16 v (a0 :: a1 :: a2 :: a3 :: a4 :: a5 :: a6 :: a7 :: a8 :: a9 :: a10 :: a11 :: a12 :: a13 :: a14 :: a15 :: .ow us :: r) Q E = v (a0 :: a1 :: a2 :: a3 :: a4 :: a5 :: a6 :: a7 :: a8 :: a9 :: a10 :: a11 :: a12 :: a13 :: a14 :: a15 :: .ow us :: r) (fun j => match j with
  | .int j => match L2.atI us j with
    | some u => Q u
    | none => False
  | _ => False) E := id rfl
@[simp] theorem xV17 {r : Env} {a0 a1 a2 a3 a4 a5 a6 a7 a8 a9 a10 a11 a12 a13 a14 a15 a16 : UO} : vV 17 (a0 :: a1 :: a2 :: a3 :: a4 :: a5 :: a6 :: a7 :: a8 :: a9 :: a10 :: a11 :: a12 :: a13 :: a14 :: a15 :: a16 :: .va u :: r) Q E = Q u := id rfl
@[simp] theorem xFa17 {r : Env} {a0 a1 a2 a3 a4 a5 a6 a7 a8 a9 a10 a11 a12 a13 a14 a15 a16 : UO} {w : VS} : wFrz 17 w (a0 :: a1 :: a2 :: a3 :: a4 :: a5 :: a6 :: a7 :: a8 :: a9 :: a10 :: a11 :: a12 :: a13 :: a14 :: a15 :: a16 :: .va u :: r) N R X B C = w (a0 :: a1 :: a2 :: a3 :: a4 :: a5 :: a6 :: a7 :: a8 :: a9 :: a10 :: a11 :: a12 :: a13 :: a14 :: a15 :: a16 :: .va u :: r) N R X B C := id rfl
@[simp] theorem xFo17 {r : Env} {a0 a1 a2 a3 a4 a5 a6 a7 a8 a9 a10 a11 a12 a13 a14 a15 a16 : UO} {w : VS} {us : List U} : wFrz 17 w (a0 :: a1 :: a2 :: a3 :: a4 :: a5 :: a6 :: a7 :: a8 :: a9 :: a10 :: a11 :: a12 :: a13 :: a14 :: a15 :: a16 :: .ow us :: r) N R X B C = w (a0 :: a1 :: a2 :: a3 :: a4 :: a5 :: a6 :: a7 :: a8 :: a9 :: a10 :: a11 :: a12 :: a13 :: a14 :: a15 :: a16 :: .va (.lst us) :: r) N R X B C := id rfl
@[simp] theorem xAp17 {r : Env} {a0 a1 a2 a3 a4 a5 a6 a7 a8 a9 a10 a11 a12 a13 a14 a15 a16 : UO} {v : VT U} {us : List U} : wAppO 17 v (a0 :: a1 :: a2 :: a3 :: a4 :: a5 :: a6 :: a7 :: a8 :: a9 :: a10 :: a11 :: a12 :: a13 :: a14 :: a15 :: a16 :: .ow us :: r) N R X B C = (us.length < 16777216 ∧ v (a0 :: a1 :: a2 :: a3 :: a4 :: a5 :: a6 :: a7 :: a8 :: a9 :: a10 :: a11 :: a12 :: a13 :: a14 :: a15 :: a16 :: .ow us :: r) (fun u => N (a0 :: a1 :: a2 :: a3 :: a4 :: a5 :: a6 :: a7 :: a8 :: a9 :: a10 :: a11 :: a12 :: a13 :: a14 :: a15 :: a16 :: .ow (us ++ [u]) :: r)) (fun c u => X c u (a0 :: a1 :: a2 :: a3 :: a4 :: a5 :: a6 :: a7 :: a8 :: a9 :: a10 :: a11 :: a12 :: a13 :: a14 :: a15 :: a16 :: .ow us :: r))) := id rfl
@[simp] theorem xSe17 {r : Env} {a0 a1 a2 a3 a4 a5 a6 a7 a8 a9 a10 a11 a12 a13 a14 a15 a16 : UO} {k v : VT U} {us : List U} : wSetO 17 k v (a0 :: a1 :: a2 :: a3 :: a4 :: a5 :: a6 :: a7 :: a8 :: a9 :: a10 :: a11 :: a12 :: a13 :: a14 :: a15 :: a16 :: .ow us :: r) N R X B C = v (a0 :: a1 :: a2 :: a3 :: a4 :: a5 :: a6 :: a7 :: a8 :: a9 :: a10 :: a11 :: a12 :: a13 :: a14 :: a15 :: a16 :: .ow us :: r) (fun u => k (a0 :: a1 :: a2 :: a3 :: a4 :: a5 :: a6 :: a7 :: a8 :: a9 :: a10 :: a11 :: a12 :: a13 :: a14 :: a15 :: a16 :: .ow us :: r) (fun j => match j with
  | .int j => match ixN us.length j with
    | some n => N (a0 :: a1 :: a2 :: a3 :: a4 :: a5 :: a6 :: a7 :: a8 :: a9 :: a10 :: a11 :: a12 :: a13 :: a14 :: a15 :: a16 :: .ow (us.set n u) :: r)
    | none => False
  | _ => False) (fun c u => X c u (a0 :: a1 :: a2 :: a3 :: a4 :: a5 :: a6 :: a7 :: a8 :: a9 :: a10 :: a11 :: a12 :: a13 :: a14 :: a15 :: a16 :: .ow us :: r))) (fun c u => X c u (a0 :: a1 :: a2 :: a3 :: a4 :: a5 :: a6 :: a7 :: a8 :: a9 :: a10 :: a11 :: a12 :: a13 :: a14 :: a15 :: a16 :: .ow us :: r)) := id rfl
@[simp] theorem xIo17 {r : Env} {a0 a1 a2 a3 a4 a5 a6 a7 a8 a9 a10 a11 a12 a13 a14 a15 a16 : UO} {v : VT U} {us : List U} : vIxO 17 v (a0 :: a1 :: a2 :: a3 :: a4 :: a5 :: a6 :: a7 :: a8 :: a9 :: a10 :: a11 :: a12 :: a13 :: a14 :: a15 :: a16 :: .ow us :: r) Q E = v (a0 :: a1 :: a2 :: a3 :: a4 :: a5 :: a6 :: a7 :: a8 :: a9 :: a10 :: a11 :: a12 :: a13 :: a14 :: a15 :: a16 :: .ow us :: r) (fun j => match j with
  | .int j => match L2.atI us j with
    | some u => Q u
    | none => False
  | _ => False) E := id rfl
@[simp] theorem xC : vC u η Q E = Q u := id rfl
@[simp] theorem xOp {h : V2T} {a b : VT U} : vOp h a b η Q E = a η (fun x => b η (fun y => h x y Q) E) E := id rfl
@[simp] theorem xUn {h : V1T} {a : VT U} : vUn h a η Q E = a η (fun x => h x Q) E := id rfl
@[simp] theorem xNil {Q : List U → Prop} : vNil η Q E = Q [] := id rfl
@[simp] theorem xCons {a : VT U} {r : VT (List U)} {Q : List U → Prop} : vCons a r η Q E = a η (fun x => r η (fun xs => Q (x :: xs)) E) E := id rfl
@[simp] theorem xApp {f : VFT} {as : VT (List U)} : vApp f as η Q E = as η (fun xs => f xs Q E) E := id rfl
@[simp] theorem xFN {h : VNT} {xs : List U} : vFN h xs Q E = h xs Q := id rfl
@[simp] theorem xTru {a : VT U} {Q : Bool → Prop} : vTru a η Q E = a η (fun x => vTr x Q) E := id rfl
@[simp] theorem xTr_bl {b : Bool} {Q : Bool → Prop} : vTr (.bl b) Q = Q b := id rfl
@[simp] theorem xTst {a : VT U} {Q : Bool → Prop} : vTst a η Q E = a η (fun x => vB x Q) E := id rfl
@[simp] theorem xB_bl {b : Bool} {Q : Bool → Prop} : vB (.bl b) Q = Q b := id rfl
@[simp] theorem xAnd {a b : VT Bool} {Q : Bool → Prop} : vAnd a b η Q E = a η (fun c => if c = true then b η Q E else Q false) E := id rfl
@[simp] theorem xOr {a b : VT Bool} {Q : Bool → Prop} : vOr a b η Q E = a η (fun c => if c = true then Q true else b η Q E) E := id rfl
@[simp] theorem xNot {a : VT Bool} {Q : Bool → Prop} : vNot a η Q E = a η (fun c => Q (!c)) E := id rfl
@[simp] theorem xAndV {a b : VT U} : vAndV a b η Q E = a η (fun x => vB x fun c => if c = true then b η Q E else Q (.bl false)) E := id rfl
@[simp] theorem xOrV {a b : VT U} : vOrV a b η Q E = a η (fun x => vB x fun c => if c = true then Q (.bl true) else b η Q E) E := id rfl
@[simp] theorem xNotV {a : VT U} : vNotV a η Q E = a η (fun x => vB x fun c => Q (.bl (!c))) E := id rfl
@[simp] theorem xIfU {c : VT Bool} {a b : VT U} : vIf c a b η Q E = c η (fun c => if c = true then a η Q E else b η Q E) E := id rfl
@[simp] theorem xChain {g g' : V2T} {a b c : VT U} : vChain g g' a b c η Q E = a η (fun x => b η (fun y => g x y fun z => vB z fun k => if k = true then c η (fun w => g' y w Q) E else Q (.bl false)) E) E := id rfl
@[simp] theorem xBox {a : VT (List U)} : vBox a η Q E = a η (fun xs => Q (.lst xs)) E := id rfl
@[simp] theorem xL {h : VNT} {a : VT (List U)} : vL h a η Q E = a η (fun xs => h xs Q) E := id rfl
@[simp] theorem xYes {Q : Bool → Prop} : vYes η Q E = Q true := id rfl
/-! numbers -/
variable {i j : Int}
@[simp] theorem xSub : vSub (.int i) (.int j) Q = Q (.int (i - j)) := id rfl
@[simp] theorem xAdd : vAdd (.int i) (.int j) Q = Q (.int (i + j)) := id rfl
@[simp] theorem xLt : vLt (.int i) (.int j) Q = Q (.bl (decide (i < j))) := id rfl
@[simp] theorem xLe : vLe (.int i) (.int j) Q = Q (.bl (decide (i ≤ j))) := id rfl
@[simp] theorem xGt : vGt (.int i) (.int j) Q = Q (.bl (decide (j < i))) := id rfl
@[simp] theorem xGe : vGe (.int i) (.int j) Q = Q (.bl (decide (j ≤ i))) := id rfl
@[simp] theorem xEqI : vEqB false (.int i) (.int j) Q = Q (.bl (decide (i = j))) := id rfl
@[simp] theorem xNeI : vEqB true (.int i) (.int j) Q = Q (.bl (!decide (i = j))) := id rfl
@[simp] theorem xEqS {a b : Str} : vEqB false (.str a) (.str b) Q = Q (.bl (decide (a = b))) := id rfl
@[simp] theorem xNeg : vNeg (.int i) Q = Q (.int (-i)) := id rfl
theorem xMul (h : mulOk i j = true) : vMul (.int i) (.int j) Q = Q (.int (i * j)) := propext ⟨fun z => z.2, fun z => ⟨h, z⟩⟩
theorem xDiv (h : cDiv i j = true) : vDiv (.int i) (.int j) Q = Q (.int (i.fdiv j)) := propext ⟨fun z => z.2, fun z => ⟨h, z⟩⟩
theorem xMod (h : j ≠ 0) : vMod (.int i) (.int j) Q = Q (.int (i.fmod j)) := propext ⟨fun z => z.2, fun z => ⟨by simpa [cMod] using h, z⟩⟩
theorem xPow (h : cPow i j = true) : vPow (.int i) (.int j) Q = Q (.int (i ^ j.toNat)) := propext ⟨fun z => z.2, fun z => ⟨h, z⟩⟩
@[simp] theorem xIsN : vIs false x .non Q = Q (.bl (isNonU x)) := by
  show Q (.bl (isNonU x != false)) = _
  cases isNonU x <;> rfl
@[simp] theorem xIsB {a b : Bool} : vIs false (.bl a) (.bl b) Q = Q (.bl (a == b)) := by
  show Q (.bl ((a == b) != false)) = _
  cases (a == b) <;> rfl
@[simp] theorem xIsnB {a b : Bool} : vIs true (.bl a) (.bl b) Q = Q (.bl (!(a == b))) := by
  show Q (.bl ((a == b) != true)) = _
  cases (a == b) <;> rfl
@[simp] theorem xTyI {T : String} : vIsTy T (.int i) Q = Q (.bl (isTy "int" T)) := id rfl
@[simp] theorem xTyB {T : String} {b : Bool} : vIsTy T (.bl b) Q = Q (.bl (isTy "bool" T)) := id rfl
@[simp] theorem xTyN {T : String} : vIsTy T .non Q = Q (.bl (isTy "NoneType" T)) := id rfl
@[simp] theorem xTyS {T : String} {s : Str} : vIsTy T (.str s) Q = Q (.bl (isTy "str" T)) := id rfl
@[simp] theorem xTyT {T : String} {xs : List U} : vIsTy T (.tup xs) Q = Q (.bl (isTy "tuple" T)) := id rfl
@[simp] theorem xTyL {T : String} {xs : List U} : vIsTy T (.lst xs) Q = Q (.bl (isTy "list" T)) := id rfl
@[simp] theorem xTyF {T : String} {xs : List U} : vIsTy T (.fro xs) Q = Q (.bl (isTy "list" T)) := id rfl
@[simp] theorem ty1 : isTy "tuple" "tuple" = true := by decide
@[simp] theorem ty2 : isTy "list" "list" = true := by decide
@[simp] theorem ty3 : isTy "int" "int" = true := by decide
@[simp] theorem ty4 : isTy "bool" "int" = true := by decide
@[simp] theorem ty5 : isTy "bool" "bool" = true := by decide
@[simp] theorem ty6 : isTy "list" "tuple" = false := by decide
@[simp] theorem ty7 : isTy "int" "tuple" = false := by decide
@[simp] theorem ty8 : isTy "bool" "tuple" = false := by decide
@[simp] theorem ty9 : isTy "str" "tuple" = false := by decide
@[simp] theorem ty10 : isTy "NoneType" "tuple" = false := by decide
@[simp] theorem ty11 : isTy "int" "bool" = false := by decide
@[simp] theorem ty12 : isTy "tuple" "list" = false := by decide
@[simp] theorem ty13 : isTy "int" "list" = false := by decide
@[simp] theorem ty14 : isTy "bool" "list" = false := by decide
@[simp] theorem ty15 : isTy "str" "list" = false := by decide
@[simp] theorem ty16 : isTy "NoneType" "list" = false := by decide
@[simp] theorem ty17 : isTy "tuple" "int" = false := by decide
@[simp] theorem ty18 : isTy "list" "int" = false := by decide
@[simp] theorem ty19 : isTy "str" "int" = false := by decide
@[simp] theorem ty20 : isTy "NoneType" "int" = false := by decide
@[simp] theorem ty21 : isTy "tuple" "bool" = false := by decide
@[simp] theorem ty22 : isTy "list" "bool" = false := by decide
@[simp] theorem ty23 : isTy "str" "bool" = false := by decide
@[simp] theorem ty24 : isTy "NoneType" "bool" = false := by decide
/-! what is in a row -/
variable {us vs : List U}
theorem ixN_ok {n k : Nat} (h : k < n) : ixN n (k : Int) = some k := by
  unfold ixN
  have h1 : (0 : Int) ≤ k := by omega
  have h2 : (k : Int) < n := by omega
  simp [h1, h2]
  try omega
theorem atI_ok {α : Type} {l : List α} {k : Nat} {a : α} (h : l[k]? = some a) : L2.atI l (k : Int) = some a := by
  have hl := (List.getElem?_eq_some_iff.mp h).1
  unfold L2.atI
  rw [ixN_ok hl]
  exact h
theorem xIxT {k : Nat} (h : us[k]? = some u) : vIx (.tup us) (.int (k : Int)) Q = Q u := by
  show (match L2.atI us (k : Int) with | some u => Q u | none => False) = _
  rw [atI_ok h]
theorem xIxL {k : Nat} (h : us[k]? = some u) : vIx (.lst us) (.int (k : Int)) Q = Q u := by
  show (match L2.atI us (k : Int) with | some u => Q u | none => False) = _
  rw [atI_ok h]
@[simp] theorem xIxT0 {r : List U} : vIx (.tup (x :: r)) (.int 0) Q = Q x := xIxT (k := 0) rfl
@[simp] theorem xIxT1 {r : List U} : vIx (.tup (x :: y :: r)) (.int 1) Q = Q y := xIxT (k := 1) rfl
@[simp] theorem xIxT2 {r : List U} : vIx (.tup (x :: y :: z :: r)) (.int 2) Q = Q z := xIxT (k := 2) rfl
@[simp] theorem xIxL0 {r : List U} : vIx (.lst (x :: r)) (.int 0) Q = Q x := xIxL (k := 0) rfl
@[simp] theorem xIxL1 {r : List U} : vIx (.lst (x :: y :: r)) (.int 1) Q = Q y := xIxL (k := 1) rfl
@[simp] theorem xIxL2 {r : List U} : vIx (.lst (x :: y :: z :: r)) (.int 2) Q = Q z := xIxL (k := 2) rfl
theorem xTup (h : us.length ≤ 16777216) : vTup us Q = Q (.tup us) := propext ⟨fun z => z.2, fun z => ⟨h, z⟩⟩
theorem xLst (h : us.length ≤ 16777216) : vLst us Q = Q (.lst us) := propext ⟨fun z => z.2, fun z => ⟨h, z⟩⟩
@[simp] theorem xTup0 : vTup [] Q = Q (.tup []) := xTup (by simp)
@[simp] theorem xTup1 : vTup [x] Q = Q (.tup [x]) := xTup (by simp)
@[simp] theorem xTup2 : vTup [x, y] Q = Q (.tup [x, y]) := xTup (by simp)
@[simp] theorem xTup3 : vTup [x, y, z] Q = Q (.tup [x, y, z]) := xTup (by simp)
@[simp] theorem xTupL : vTupL us Q = Q (.tup us) := id rfl
@[simp] theorem xLenT : vLen [.tup us] Q = Q (.int us.length) := id rfl
@[simp] theorem xLenL : vLen [.lst us] Q = Q (.int us.length) := id rfl
@[simp] theorem xLenF : vLen [.fro us] Q = Q (.int us.length) := id rfl
@[simp] theorem xLenLL : vLenL us Q = Q (.int us.length) := id rfl
@[simp] theorem xListT : vList [.tup us] Q = Q (.lst us) := id rfl
@[simp] theorem xListL : vList [.lst us] Q = Q (.lst us) := id rfl
@[simp] theorem xTupleL : vTuple [.lst us] Q = Q (.tup us) := id rfl
@[simp] theorem xTupleT : vTuple [.tup us] Q = Q (.tup us) := id rfl
@[simp] theorem xInt : vInt [.int i] Q = Q (.int i) := id rfl
@[simp] theorem xIntB {b : Bool} : vInt [.bl b] Q = Q (.int (if b then 1 else 0)) := id rfl
@[simp] theorem xAbs : vAbs [.int i] Q = Q (.int (if i < 0 then -i else i)) := id rfl
@[simp] theorem xMax2 : vMax2 [.int i, .int j] Q = Q (.int (if j > i then j else i)) := id rfl
@[simp] theorem xGcd : vGcd [.int i, .int j] Q = Q (.int ((Nat.gcd i.natAbs j.natAbs : Nat) : Int)) := id rfl
theorem xLcm (h : cLcm i j = true) : vLcm [.int i, .int j] Q = Q (.int ((Nat.lcm i.natAbs j.natAbs : Nat) : Int)) := propext ⟨fun z => z.2, fun z => ⟨h, z⟩⟩
@[simp] theorem xSq {h : VNT} : vSq h [.lst us] Q = h us Q := id rfl
@[simp] theorem xTrT {R1 : Bool → Prop} : vTr (.tup us) R1 = R1 (!us.isEmpty) := id rfl
/-! rows that are walked -/
variable {QL : List U → Prop}
@[simp] theorem xSrc {a : VT U} : vSrc a η QL E = a η (fun x => match seqU x with
  | some us => QL us
  | none => False) E := id rfl
@[simp] theorem seqT : seqU (.tup us) = some us := id rfl
@[simp] theorem seqL : seqU (.lst us) = some us := id rfl
@[simp] theorem seqF : seqU (.fro us) = some us := id rfl
theorem small_nat {n : Nat} (h : n < 1000000000) : small62 (n : Int) = true := by
  unfold small62
  rw [decide_eq_true_eq]
  omega
@[simp] theorem xRng1 {a : VT U} : vRng1 a η QL E = a η (fun x => match x with
  | .int j => small62 j = true ∧ QL (rngU 0 j.toNat)
  | _ => False) E := id rfl
@[simp] theorem xRng3 {a b c : VT U} : vRng3 a b c η QL E = a η (fun x => b η (fun y => c η (fun z => match x, y, z with
  | .int i, .int j, .int c => ((c ≠ 0 ∧ c.natAbs < 1073741824) ∧ Builtin.Range.small i j c = true ∧ 0 ≤ Builtin.Range.rangeSize i j c) ∧ QL (rngCU i c (Builtin.Range.rangeSize i j c).toNat)
  | _, _, _ => False) E) E) E := id rfl
@[simp] theorem xZip {a b : VT U} : vZip a b η QL E = a η (fun x => b η (fun y => match x, y with
  | .tup xs, .tup ys => QL (zipU xs ys)
  | .lst xs, .lst ys => QL (zipU xs ys)
  | _, _ => False) E) E := id rfl
@[simp] theorem xLc {t : Tgt} {own : List Nat} {src : VT (List U)} {c : VT Bool} {elt : VT U} : vLc t own src c elt η QL E = src η (fun items => items.length < 16000000 ∧ lcV t c elt (wipeE η own) items QL) E := id rfl
@[simp] theorem xLc2 {t : Tgt} {own : List Nat} {src : VT (List U)} {c : VT Bool} {t1 : Tgt} {vs1 : List Nat} {src1 : VT (List U)} {c1 : VT Bool} {elt : VT U} : vLc2 t own src c t1 vs1 src1 c1 elt η QL E = src η (fun items => items.length < 16000000 ∧ lcV2 t c (innV t1 vs1 src1 c1 elt) (wipeE η own) items fun us => us.length < 16000000 ∧ QL us) E := id rfl
@[simp] theorem wipe0 : wipeE η [] = η := id rfl
@[simp] theorem wipe1 {v : Nat} {r : List Nat} : wipeE η (v :: r) = (wipeE η r).set v .un := id rfl
@[simp] theorem xPartN {Q : Option Int → Prop} : vPartN η Q E = Q none := id rfl
@[simp] theorem xPartS {a : VT U} {Q : Option Int → Prop} : vPartS a η Q E = a η (fun x => match x with
  | .int i => Q (some i)
  | _ => False) E := id rfl
@[simp] theorem xSlice {a : VT U} {lo hi : VT (Option Int)} : vSlice a lo hi η Q E = a η (fun x => lo η (fun l => hi η (fun h => match x with
  | .tup us => Q (.tup (cutL us l h))
  | .lst us => Q (.lst (cutL us l h))
  | .fro us => Q (.lst (cutL us l h))
  | _ => False) E) E) E := id rfl
@[simp] theorem xVal {names : List Str} {a : VT U} : vVal names a η Q E = a η (fun x => match x with
  | .exc c u => c ∈ names ∧ Q u
  | _ => False) E := id rfl
/-! statements -/
@[simp] theorem sPass' : wPass η N R X B C = N η := id rfl
@[simp] theorem sBrk' : wBrk η N R X B C = B η := id rfl
@[simp] theorem sSeq' {a b : VS} : wSeq a b η N R X B C = a η (fun η1 => b η1 N R X B C) R X B C := id rfl
@[simp] theorem sIf' {c : VT Bool} {a b : VS} : wIf c a b η N R X B C = c η (fun t => if t = true then a η N R X B C else b η N R X B C) (fun c u => X c u η) := id rfl
@[simp] theorem sRet' {v : VT U} : wRet v η N R X B C = v η R (fun c u => X c u η) := id rfl
@[simp] theorem sExpr' {v : VT U} : wExpr v η N R X B C = v η (fun _ => N η) (fun c u => X c u η) := id rfl
@[simp] theorem sRaise' {c : Str} {v : VT U} : wRaise c v η N R X B C = v η (fun u => X c u η) (fun c u => X c u η) := id rfl
@[simp] theorem sAsg' {t : Tgt} {v : VT U} : wAsg t v η N R X B C = v η (fun u => match asgE t u η with
  | some η1 => N η1
  | none => False) (fun c u => X c u η) := id rfl
@[simp] theorem sPar' {i j : Nat} {a b : VT U} : wPar i j a b η N R X B C = a η (fun x => b η (fun y => N ((η.set i (.va x)).set j (.va y))) (fun c u => X c u η)) (fun c u => X c u η) := id rfl
@[simp] theorem sPar3' {i j l : Nat} {a b d : VT U} : wPar3 i j l a b d η N R X B C = a η (fun x => b η (fun y => d η (fun z => N (((η.set i (.va x)).set j (.va y)).set l (.va z))) (fun c u => X c u η)) (fun c u => X c u η)) (fun c u => X c u η) := id rfl
@[simp] theorem asgN {i : Nat} : asgE (.nm i) u η = some (η.set i (.va u)) := id rfl
@[simp] theorem asgT2 {i j : Nat} : asgE (.tp [.nm i, .nm j]) (.tup [x, y]) η = some ((η.set i (.va x)).set j (.va y)) := id rfl
@[simp] theorem sFor' {t : Tgt} {src : VT (List U)} {body : VS} : wFor t src body η N R X B C = src η (fun items => items.length ≤ 4611686018427387904 ∧ forV t body items η N R X) (fun c u => X c u η) := id rfl
@[simp] theorem sWh' {c : VT Bool} {body : VS} {n : Nat} : wWh c body n η N R X B C = whV c body n η N R X := id rfl
@[simp] theorem sTry' {cat : Str → Option Bool} {i : Nat} {b s : VS} : wTry cat i b s η N R X B C = b η N R (fun c u η1 => match cat c with
  | some true => s (η1.set i (.va (.exc c u))) (fun η2 => N (η2.set i .un)) R (fun _ _ _ => False) (fun η2 => B (η2.set i .un)) (fun η2 => C (η2.set i .un))
  | some false => X c u η1
  | none => False) B C := id rfl
@[simp] theorem sOwn' {i : Nat} {v : VT (List U)} : wOwn i v η N R X B C = v η (fun us => N (η.set i (.ow us))) (fun c u => X c u η) := id rfl
@[simp] theorem oLst {v : VT (List U)} : vFLst v η QL E = v η (fun xs => xs.length ≤ 16777216 ∧ QL xs) E := id rfl
@[simp] theorem oMul {a b : VT U} : vFMul a b η QL E = a η (fun x => b η (fun y => match x, y with
  | .lst xs, .int k => (xs.length * k.toNat ≤ 16777216 ∧ k.natAbs < 2 ^ 60) ∧ QL (List.replicate k.toNat xs).flatten
  | _, _ => False) E) E := id rfl
end
/-! ### loops -/
section
variable {η : Env} {QL : List U → Prop} {N : Env → Prop} {R : U → Prop} {X : XE}
/-- each element by itself -/
theorem lcV_map {t : Nat} {elt : VT U} {g : U → U} : ∀ (us : List U), (∀ x ∈ us, ∀ Q, elt (η.set t (.va x)) Q noE = Q (g x)) → lcV (.nm t) vYes elt η us QL = QL (us.map g) := by
  intro us
  induction us generalizing QL with
  | nil => intro _; rfl
  | cons x us ih =>
    intro h
    unfold lcV
    simp only [asgN, xYes, if_true]
    rw [h x List.mem_cons_self, ih (fun y hy => h y (List.mem_cons_of_mem _ hy)), List.map_cons]
theorem lcV_map2 {t s : Nat} {elt : VT U} {g : U → U → U} : ∀ (us vs : List U), (∀ x y, ∀ Q, U.tup [x, y] ∈ zipU us vs → elt ((η.set t (.va x)).set s (.va y)) Q noE = Q (g x y)) → lcV (.tp [.nm t, .nm s]) vYes elt η (zipU us vs) QL = QL (List.zipWith g us vs) := by
  intro us vs
  induction us generalizing QL vs with
  | nil => intro _; rfl
  | cons x us ih =>
    intro h
    cases vs with
    | nil => rfl
    | cons y vs =>
      unfold zipU
      simp only [List.zipWith_cons_cons]
      unfold lcV
      simp only [asgT2, xYes, if_true]
      rw [h x y _ (by unfold zipU; simp), show List.zipWith (fun x y => U.tup [x, y]) us vs = zipU us vs from rfl, ih vs (fun x' y' Q hm => h x' y' Q (by unfold zipU; exact List.mem_cons_of_mem _ hm))]
theorem lcV2_map {t : Nat} {body : Env → (List U → Prop) → Prop} {g : U → List U} : ∀ (us : List U), (∀ x ∈ us, ∀ Q, body (η.set t (.va x)) Q = Q (g x)) → lcV2 (.nm t) vYes body η us QL = QL (us.map g).flatten := by
  intro us
  induction us generalizing QL with
  | nil => intro _; rfl
  | cons x us ih =>
    intro h
    unfold lcV2
    simp only [asgN, xYes, if_true]
    rw [h x List.mem_cons_self, ih (fun y hy => h y (List.mem_cons_of_mem _ hy)), List.map_cons, List.flatten_cons]
/-- each element one of several -/
inductive All2 {α β : Type} (G : α → β → Prop) : List α → List β → Prop
  | nil : All2 G [] []
  | cons {x : α} {y : β} {xs : List α} {ys : List β} (h : G x y) (r : All2 G xs ys) : All2 G (x :: xs) (y :: ys)
theorem lcV_all {t : Nat} {elt : VT U} {G : U → U → Prop} : ∀ (us : List U), (∀ x ∈ us, ∀ Q : U → Prop, (∀ y, G x y → Q y) → elt (η.set t (.va x)) Q noE) → (∀ ys, All2 G us ys → QL ys) → lcV (.nm t) vYes elt η us QL := by
  intro us
  induction us generalizing QL with
  | nil => intro _ h; exact h [] .nil
  | cons x us ih =>
    intro h q
    unfold lcV
    simp only [asgN, xYes, if_true]
    refine h x List.mem_cons_self _ fun y hy => ih (fun z hz => h z (List.mem_cons_of_mem _ hz)) fun ys hys => q _ (.cons hy hys)
/-- a loop by what holds ahead of each turn -/
theorem forV_inv {t : Nat} {body : VS} {I : List U → Env → Prop} : ∀ (us : List U) (η : Env), I us η → (∀ x xs η, I (x :: xs) η → ∀ K : Env → Prop, (∀ η2, I xs η2 → K η2) → body (η.set t (.va x)) K R X N K) → (∀ η, I [] η → N η) → forV (.nm t) body us η N R X := by
  intro us
  induction us with
  | nil => intro η i _ n; exact n η i
  | cons x us ih =>
    intro η i st n
    unfold forV
    simp only [asgN]
    exact st x us η i _ fun η2 i2 => ih η2 i2 st n
theorem whV_inv {c : VT Bool} {body : VS} {I : Nat → Env → Prop} : ∀ (n : Nat) (η : Env), I n η → (∀ k η, k < n → I (k + 1) η → ∀ K : Env → Prop, (∀ η2, I k η2 → K η2) → c η (fun b => if b = true then body η K R X N K else N η) (fun c u => X c u η)) → ¬ (∃ η, I 0 η) → whV c body n η N R X := by
  intro n
  induction n with
  | zero => intro η i _ h0; exact (h0 ⟨η, i⟩).elim
  | succ n ih =>
    intro η i st h0
    unfold whV
    exact st n η (by omega) i _ fun η2 i2 => ih η2 i2 (fun k η hk => st k η (by omega)) h0
end
end MI

set_option Elab.async false
set_option linter.all false
set_option maxRecDepth 100000
set_option maxHeartbeats 1000000
set_option exponentiation.threshold 100000
/-! # Fractions in lowest terms as values -/
namespace MI
open PySem PySem.Spec PyProof.Rows L2
def F (q : Rat) : U := .tup [.int q.num, .int q.den]
theorem log2_lt {a : Nat} {k : Nat} (h : a < 2 ^ k) (hk : 0 < k) : a.log2 < k := by
  by_cases ha : a = 0
  · subst ha; simpa using hk
  · exact (Nat.log2_lt ha).mpr h
theorem mulOk_of {i j : Int} {m n : Nat} (hi : i.natAbs < 2 ^ m) (hj : j.natAbs < 2 ^ n) (h : m + n ≤ 100000000) (hm : 0 < m := by decide) (hn : 0 < n := by decide) : mulOk i j = true := by
  have h1 := log2_lt hi hm
  have h2 := log2_lt hj hn
  unfold mulOk
  simp
  omega
theorem cDiv_of {i j : Int} (h : j ≠ 0) (l : j.natAbs < 2 ^ 8999) : cDiv i j = true := by
  have := log2_lt l (by decide)
  unfold cDiv
  simp [h]
  omega
theorem mul_lt2 {i j : Int} {m n : Nat} (hi : i.natAbs < 2 ^ m) (hj : j.natAbs < 2 ^ n) : (i * j).natAbs < 2 ^ (m + n) := by
  rw [Int.natAbs_mul, Nat.pow_add]
  exact Nat.mul_lt_mul'' hi hj
theorem add_lt2 {i j : Int} {m : Nat} (hi : i.natAbs < 2 ^ m) (hj : j.natAbs < 2 ^ m) : (i + j).natAbs < 2 ^ (m + 1) := by
  have := Int.natAbs_add_le i j
  rw [Nat.pow_succ]
  omega
theorem pow_le2 {a B C : Nat} (h : a < 2 ^ B) (l : B ≤ C) : a < 2 ^ C := Nat.lt_of_lt_of_le h (Nat.pow_le_pow_right (by decide) l)
theorem num_le (z : Int) (N : Nat) : (mkRat z N).num.natAbs ≤ z.natAbs := by
  rw [Rat.num_mkRat]
  split
  · simp
  · exact Int.natAbs_ediv_le_natAbs _ _
theorem den_le (z : Int) {N : Nat} (h : 0 < N) : (mkRat z N).den ≤ N := by
  rw [Rat.den_mkRat]
  split
  · omega
  · exact Nat.div_le_self _ _
theorem den_dvd (z : Int) {N : Nat} (h : 0 < N) : (mkRat z N).den ∣ N := by
  rw [Rat.den_mkRat]
  split
  · omega
  · exact Nat.div_dvd_of_dvd (Nat.gcd_dvd_left _ _)
/-- what a division by the greatest divisor tells -/
theorem low_eq {a : Int} {n : Nat} (h : 0 < n) : U.tup [.int (a / (Nat.gcd a.natAbs n : Int)), .int ((n : Int) / (Nat.gcd a.natAbs n : Int))] = F (mkRat a n) := by
  unfold F
  rw [Rat.num_mkRat, Rat.den_mkRat, if_neg (by omega), if_neg (by omega), Nat.gcd_comm n a.natAbs]
  rw [Int.natCast_ediv]
theorem F_inj {p q : Rat} (h : F p = F q) : p = q := by
  unfold F at h
  simp only [U.tup.injEq, List.cons.injEq, U.int.injEq, and_true] at h
  exact Rat.ext h.1 (by omega)
/-! rows of so many -/
def vec (n : Nat) (f : Nat → U) : List U := (List.range n).map f
@[simp] theorem vec_len {n : Nat} {f : Nat → U} : (vec n f).length = n := by unfold vec; simp
theorem vec_get {n k : Nat} {f : Nat → U} (h : k < n) : (vec n f)[k]? = some (f k) := by unfold vec; simp [h]
theorem vec_map {n : Nat} {f : Nat → U} {g : U → U} : (vec n f).map g = vec n fun i => g (f i) := by unfold vec; simp
theorem mem_vec {n : Nat} {f : Nat → U} {x : U} (h : x ∈ vec n f) : ∃ i, i < n ∧ x = f i := by
  unfold vec at h
  simp only [List.mem_map, List.mem_range] at h
  obtain ⟨i, hi, e⟩ := h
  exact ⟨i, hi, e.symm⟩
theorem vec_congr {n : Nat} {f g : Nat → U} (h : ∀ i, i < n → f i = g i) : vec n f = vec n g := by
  unfold vec
  exact List.map_congr_left fun i hi => h i (List.mem_range.mp hi)
theorem rngU_eq (n : Nat) : rngU 0 n = vec n fun i => .int (i : Int) := by
  unfold rngU vec
  simp
theorem vec_zip {n : Nat} {f g : Nat → U} {h : U → U → U} : List.zipWith h (vec n f) (vec n g) = vec n fun i => h (f i) (g i) := by
  unfold vec
  rw [List.zipWith_map]
  rw [List.zipWith_self]
theorem vec_succ {n : Nat} {f : Nat → U} : vec (n + 1) f = vec n f ++ [f n] := by
  unfold vec
  rw [List.range_succ, List.map_append]
  rfl
/-- an object by its number of entries -/
theorem vec_of (us : List U) : us = vec us.length fun i => us.getD i .non := by
  apply List.ext_getElem?
  intro i
  by_cases h : i < us.length
  · rw [vec_get h, List.getElem?_eq_getElem h]
    simp [List.getD, List.getElem?_eq_getElem h]
  · rw [List.getElem?_eq_none (by omega), List.getElem?_eq_none (by simp; omega)]
/-! sums -/
def sm (n : Nat) (f : Nat → Int) : Int := match n with
  | 0 => 0
  | n + 1 => sm n f + f n
theorem sm_congr {f g : Nat → Int} : ∀ {n : Nat}, (∀ i, i < n → f i = g i) → sm n f = sm n g
  | 0, _ => rfl
  | n + 1, h => by unfold sm; rw [sm_congr (n := n) fun i hi => h i (by omega), h n (by omega)]
theorem sm_add {f g : Nat → Int} : ∀ {n : Nat}, sm n (fun i => f i + g i) = sm n f + sm n g
  | 0 => rfl
  | n + 1 => by unfold sm; rw [sm_add (n := n)]; omega
theorem sm_mulr {f : Nat → Int} {k : Int} : ∀ {n : Nat}, sm n (fun i => f i * k) = sm n f * k
  | 0 => by simp [sm]
  | n + 1 => by unfold sm; rw [sm_mulr (n := n), Int.add_mul]
theorem sm_mull {f : Nat → Int} {k : Int} {n : Nat} : sm n (fun i => k * f i) = k * sm n f := by
  rw [Int.mul_comm, ← sm_mulr]
  exact sm_congr fun i _ => Int.mul_comm _ _
theorem sm_zero {n : Nat} : sm n (fun _ => 0) = 0 := by
  induction n with
  | zero => rfl
  | succ n ih => unfold sm; rw [ih]; rfl
theorem sm_swap {f : Nat → Nat → Int} {m : Nat} : ∀ {n : Nat}, sm n (fun i => sm m (fun j => f i j)) = sm m (fun j => sm n (fun i => f i j))
  | 0 => by
    show 0 = sm m (fun j => 0)
    rw [sm_zero]
  | n + 1 => by
    show sm n (fun i => sm m (fun j => f i j)) + sm m (fun j => f n j) = _
    rw [sm_swap (n := n), ← sm_add]
    rfl
theorem sm_bd {f : Nat → Int} {B : Nat} : ∀ {n : Nat}, (∀ i, i < n → (f i).natAbs ≤ B) → (sm n f).natAbs ≤ n * B
  | 0, _ => by simp [sm]
  | n + 1, h => by
    unfold sm
    have h1 := sm_bd (n := n) fun i hi => h i (by omega)
    have h2 := h n (by omega)
    have h3 := Int.natAbs_add_le (sm n f) (f n)
    rw [Nat.succ_mul]
    omega
theorem sm_nonneg {f : Nat → Int} : ∀ {n : Nat}, (∀ i, i < n → 0 ≤ f i) → 0 ≤ sm n f
  | 0, _ => by simp [sm]
  | n + 1, h => by
    unfold sm
    have h1 := sm_nonneg (n := n) fun i hi => h i (by omega)
    have h2 := h n (by omega)
    omega
theorem list_sum (f : Nat → Int) : ∀ n : Nat, ((List.range n).map f).sum = sm n f
  | 0 => rfl
  | n + 1 => by rw [List.range_succ, List.map_append, List.sum_append, list_sum f n]; simp [sm]
theorem ints_vec (f : Nat → Int) (n : Nat) : intsU (vec n fun i => .int (f i)) = some ((List.range n).map f) := by
  unfold vec
  induction (List.range n) with
  | nil => rfl
  | cons a l ih => simp only [List.map_cons, intsU, ih, Option.map_some]
theorem xSumV {f : Nat → Int} {n : Nat} {Q : U → Prop} : vSum (vec n fun i => .int (f i)) Q = Q (.int (sm n f)) := by
  unfold vSum
  rw [ints_vec]
  show Q (.int ((List.range n).map f).sum) = _
  rw [list_sum]
theorem bools_vec (f : Nat → Bool) (n : Nat) : boolsU (vec n fun i => .bl (f i)) = some ((List.range n).map f) := by
  unfold vec
  induction (List.range n) with
  | nil => rfl
  | cons a l ih => simp only [List.map_cons, boolsU, ih, Option.map_some]
theorem xAllV {f : Nat → Bool} {n : Nat} {Q : U → Prop} : vAll (vec n fun i => .bl (f i)) Q = Q (.bl ((List.range n).all f)) := by
  unfold vAll
  rw [bools_vec]
  simp [List.all_map, Function.comp_def]
theorem all_true {f : Nat → Bool} {n : Nat} (h : ∀ i, i < n → f i = true) : (List.range n).all f = true := by
  rw [List.all_eq_true]
  exact fun i hi => h i (List.mem_range.mp hi)
theorem all_false {f : Nat → Bool} {n i : Nat} (hi : i < n) (h : f i = false) : (List.range n).all f = false := by
  rw [List.all_eq_false]
  exact ⟨i, List.mem_range.mpr hi, by simp [h]⟩
/-! equal fractions -/
theorem mk_cancel {a : Int} {n k : Nat} (hk : 0 < k) : mkRat (a * k) (n * k) = mkRat a n := Rat.mkRat_mul_right (by omega)
theorem mk_eq {a b : Int} {n m : Nat} (hn : 0 < n) (hm : 0 < m) (h : a * m = b * n) : mkRat a n = mkRat b m := (Rat.mkRat_eq_iff (by omega) (by omega)).mpr h
theorem mk_eq_iff {a b : Int} {n : Nat} (hn : 0 < n) : mkRat a n = mkRat b n ↔ a = b := by
  rw [Rat.mkRat_eq_iff (by omega) (by omega)]
  constructor
  · intro h; exact Int.eq_of_mul_eq_mul_right (by omega) h
  · intro h; rw [h]
theorem mk_self_num {N : Nat} (h : 0 < N) (z : Int) : (mkRat z N).num * N = z * (mkRat z N).den := by
  have := Rat.mkRat_self (mkRat z N)
  exact (Rat.mkRat_eq_iff ((mkRat z N).den_nz) (by omega)).mp this
theorem num_sign {N : Nat} (h : 0 < N) (z : Int) : 0 ≤ (mkRat z N).num ↔ 0 ≤ z := by
  have e := mk_self_num h z
  have d := (mkRat z N).den_pos
  constructor
  · intro h1
    by_cases h2 : 0 ≤ z
    · exact h2
    · have : z * (mkRat z N).den < 0 := Int.mul_neg_of_neg_of_pos (by omega) (by omega)
      have : 0 ≤ (mkRat z N).num * N := Int.mul_nonneg h1 (by omega)
      omega
  · intro h1
    by_cases h2 : 0 ≤ (mkRat z N).num
    · exact h2
    · have : (mkRat z N).num * N < 0 := Int.mul_neg_of_neg_of_pos (by omega) (by omega)
      have : 0 ≤ z * (mkRat z N).den := Int.mul_nonneg h1 (by omega)
      omega
theorem num_le_den {N : Nat} (h : 0 < N) (z : Int) : (mkRat z N).num ≤ (mkRat z N).den ↔ z ≤ N := by
  have e := mk_self_num h z
  have d := (mkRat z N).den_pos
  constructor
  · intro h1
    have h2 : (mkRat z N).num * N ≤ (mkRat z N).den * N := Int.mul_le_mul_of_nonneg_right h1 (by omega)
    rw [e, Int.mul_comm ((mkRat z N).den : Int)] at h2
    exact Int.le_of_mul_le_mul_right h2 (by omega)
  · intro h1
    have h2 : z * (mkRat z N).den ≤ N * (mkRat z N).den := Int.mul_le_mul_of_nonneg_right h1 (by omega)
    rw [← e, Int.mul_comm (N : Int)] at h2
    exact Int.le_of_mul_le_mul_right h2 (by omega)
end MI

set_option Elab.async false
set_option linter.all false
set_option maxRecDepth 100000
set_option maxHeartbeats 400000
set_option exponentiation.threshold 100000
namespace MI
open PySem PySem.Spec PyProof.Rows L2
/-- a loop whose turns are known -/
theorem forV_det {t n : Nat} {body : VS} {f : Nat → U} {e : Nat → UO → Env} {N : Env → Prop} {R : U → Prop} {X : XE} (hs : ∀ m o u, (e m o).set t (.va u) = e m (.va u))
    (hb : ∀ m, m < n → ∀ (K N2 : Env → Prop), body (e m (.va (f m))) K R X N2 K = K (e (m + 1) (.va (f m)))) (o : UO) : forV (.nm t) body (vec n f) (e 0 o) N R X = N (e n (if n = 0 then o else .va (f (n - 1)))) := by
  have go : ∀ k m, m + k = n → ∀ o, forV (.nm t) body ((vec n f).drop m) (e m o) N R X = N (e n (if m = n then o else .va (f (n - 1)))) := by
    intro k
    induction k with
    | zero =>
      intro m hm o
      have : m = n := by omega
      subst this
      rw [List.drop_eq_nil_of_le (by simp), if_pos rfl]
      rfl
    | succ k ih =>
      intro m hm o
      rw [List.drop_eq_getElem_cons (by simp; omega)]
      have e1 : (vec n f)[m]'(by simp; omega) = f m := by simp [vec]
      rw [e1]
      unfold forV
      simp only [asgN, hs]
      rw [hb m (by omega), ih (m + 1) (by omega), if_neg (show ¬ m = n by omega)]
      by_cases h1 : m + 1 = n
      · rw [if_pos h1]
        have : n - 1 = m := by omega
        rw [this]
      · rw [if_neg h1]
  have := go n 0 (by omega) o
  rw [List.drop_zero] at this
  rw [this]
  by_cases h0 : n = 0
  · subst h0; rfl
  · rw [if_neg h0, if_neg (by omega)]
/-- a loop that appends -/
theorem and_eq {p q : Prop} (h : p) : (p ∧ q) = q := propext ⟨fun z => z.2, fun z => ⟨h, z⟩⟩
/-- a comprehension over so many -/
theorem lcV_vec {t n : Nat} {elt : VT U} {f g : Nat → U} {η : Env} {QL : List U → Prop} (h : ∀ i, i < n → ∀ Q, elt (η.set t (.va (f i))) Q noE = Q (g i)) : lcV (.nm t) vYes elt η (vec n f) QL = QL (vec n g) := by
  have go : ∀ k m, m + k = n → ∀ QL : List U → Prop, lcV (.nm t) vYes elt η ((vec n f).drop m) QL = QL ((vec n g).drop m) := by
    intro k
    induction k with
    | zero =>
      intro m hm QL
      rw [List.drop_eq_nil_of_le (by simp; omega), List.drop_eq_nil_of_le (by simp; omega)]
      rfl
    | succ k ih =>
      intro m hm QL
      rw [List.drop_eq_getElem_cons (by simp; omega), List.drop_eq_getElem_cons (l := vec n g) (by simp; omega)]
      have e1 : (vec n f)[m]'(by simp; omega) = f m := by simp [vec]
      have e2 : (vec n g)[m]'(by simp; omega) = g m := by simp [vec]
      rw [e1, e2]
      unfold lcV
      simp only [asgN, xYes, if_true]
      rw [h m (by omega), ih (m + 1) (by omega)]
  have := go n 0 (by omega) QL
  rwa [List.drop_zero, List.drop_zero] at this
theorem lcV_zip {t s n : Nat} {elt : VT U} {f f2 g : Nat → U} {η : Env} {QL : List U → Prop} (h : ∀ i, i < n → ∀ Q, elt ((η.set t (.va (f i))).set s (.va (f2 i))) Q noE = Q (g i)) : lcV (.tp [.nm t, .nm s]) vYes elt η (zipU (vec n f) (vec n f2)) QL = QL (vec n g) := by
  have e0 : zipU (vec n f) (vec n f2) = vec n fun i => .tup [f i, f2 i] := by unfold zipU; exact vec_zip
  rw [e0]
  have go : ∀ k m, m + k = n → ∀ QL : List U → Prop, lcV (.tp [.nm t, .nm s]) vYes elt η ((vec n fun i => U.tup [f i, f2 i]).drop m) QL = QL ((vec n g).drop m) := by
    intro k
    induction k with
    | zero =>
      intro m hm QL
      rw [List.drop_eq_nil_of_le (by simp; omega), List.drop_eq_nil_of_le (by simp; omega)]
      rfl
    | succ k ih =>
      intro m hm QL
      rw [List.drop_eq_getElem_cons (by simp; omega), List.drop_eq_getElem_cons (l := vec n g) (by simp; omega)]
      have e1 : (vec n fun i => U.tup [f i, f2 i])[m]'(by simp; omega) = U.tup [f m, f2 m] := by simp [vec]
      have e2 : (vec n g)[m]'(by simp; omega) = g m := by simp [vec]
      rw [e1, e2]
      unfold lcV
      simp only [asgT2, xYes, if_true]
      rw [h m (by omega), ih (m + 1) (by omega)]
  have := go n 0 (by omega) QL
  rwa [List.drop_zero, List.drop_zero] at this
/-- each of so many is one of several -/
theorem lcV_some {t n : Nat} {elt : VT U} {f : Nat → U} {G : Nat → U → Prop} {η : Env} {QL : List U → Prop} (h : ∀ i, i < n → ∀ Q : U → Prop, (∀ y, G i y → Q y) → elt (η.set t (.va (f i))) Q noE) (q : ∀ g : Nat → U, (∀ i, i < n → G i (g i)) → QL (vec n g)) : lcV (.nm t) vYes elt η (vec n f) QL := by
  have go : ∀ k m, m + k = n → ∀ QL : List U → Prop, (∀ g : Nat → U, (∀ i, m ≤ i → i < n → G i (g i)) → QL ((vec n g).drop m)) → lcV (.nm t) vYes elt η ((vec n f).drop m) QL := by
    intro k
    induction k with
    | zero =>
      intro m hm QL q
      have := q (fun _ => .non) (fun i h1 h2 => by omega)
      rw [List.drop_eq_nil_of_le (by simp; omega)] at this ⊢
      exact this
    | succ k ih =>
      intro m hm QL q
      rw [List.drop_eq_getElem_cons (by simp; omega)]
      have e1 : (vec n f)[m]'(by simp; omega) = f m := by simp [vec]
      rw [e1]
      unfold lcV
      simp only [asgN, xYes, if_true]
      refine h m (by omega) _ fun y hy => ih (m + 1) (by omega) _ fun g hg => ?_
      have := q (fun i => if i = m then y else g i) fun i h1 h2 => by
        by_cases hi : i = m
        · subst hi; simpa using hy
        · simp only [hi, if_false]; exact hg i (by omega) h2
      rw [List.drop_eq_getElem_cons (by simp; omega)] at this
      have e2 : (vec n fun i => if i = m then y else g i)[m]'(by simp; omega) = y := by simp [vec]
      have e3 : (vec n fun i => if i = m then y else g i).drop (m + 1) = (vec n g).drop (m + 1) := by
        apply List.ext_getElem?
        intro j
        rw [List.getElem?_drop, List.getElem?_drop]
        by_cases hj : m + 1 + j < n
        · rw [vec_get hj, vec_get hj, if_neg (by omega)]
        · rw [List.getElem?_eq_none (by simp; omega), List.getElem?_eq_none (by simp; omega)]
      rw [e2, e3] at this
      exact this
  have := go n 0 (by omega) QL (fun g hg => by rw [List.drop_zero]; exact q g fun i hi => hg i (Nat.zero_le _) hi)
  rwa [List.drop_zero] at this
end MI

set_option Elab.async false
set_option linter.all false
set_option maxRecDepth 100000
set_option maxHeartbeats 400000
set_option exponentiation.threshold 100000
namespace MI
open PySem PySem.Spec PyProof.Rows L2
theorem vec_add {a b : Nat} {f : Nat → U} : vec (a + b) f = vec a f ++ vec b fun i => f (a + i) := by
  unfold vec
  rw [List.range_add, List.map_append, List.map_map]
  rfl
theorem vec_flat {n : Nat} {f : Nat → Nat → U} (hn : 0 < n) : ∀ m : Nat, ((List.range m).map fun i => vec n (f i)).flatten = vec (m * n) fun k => f (k / n) (k % n)
  | 0 => by simp [vec]
  | m + 1 => by
    rw [List.range_succ, List.map_append, List.flatten_append, vec_flat hn m, Nat.succ_mul, vec_add]
    congr 1
    simp only [List.map_cons, List.map_nil, List.flatten_cons, List.flatten_nil, List.append_nil]
    refine vec_congr fun j hj => ?_
    rw [Nat.mul_comm m n, Nat.mul_add_div hn, Nat.mul_add_mod, Nat.div_eq_of_lt hj, Nat.mod_eq_of_lt hj, Nat.add_zero]
theorem cut_nat {α : Type} {l : List α} {a b : Nat} (hb : b ≤ l.length) (h : a ≤ b) : cutL l (some (a : Int)) (some (b : Int)) = (l.drop a).take (b - a) := by
  unfold cutL
  simp only [HT.sIx_nat, Nat.min_eq_left hb, Nat.min_eq_left (Nat.le_trans h hb)]
theorem cut_to {α : Type} {l : List α} {b : Nat} (hb : b ≤ l.length) : cutL l none (some (b : Int)) = l.take b := by
  unfold cutL
  rw [HT.sIx_nat, HT.sIx_none, Nat.min_eq_left hb]
  simp
theorem cut_from {α : Type} {l : List α} {a : Nat} (ha : a ≤ l.length) : cutL l (some (a : Int)) none = l.drop a := by
  unfold cutL
  rw [HT.sIx_nat, HT.sIx_none, Nat.min_eq_left ha]
  rw [List.take_of_length_le (by simp)]
theorem vec_cut {n a b : Nat} {f : Nat → U} (h : a + b ≤ n) : ((vec n f).drop a).take b = vec b fun i => f (a + i) := by
  apply List.ext_getElem?
  intro j
  by_cases hj : j < b
  · rw [List.getElem?_take_of_lt hj, List.getElem?_drop, vec_get (by omega), vec_get hj]
  · rw [List.getElem?_eq_none (by simp; omega), List.getElem?_eq_none (by simp; omega)]
theorem range_size {n : Nat} (hn : 0 < n) (m : Nat) (hm : 0 < m) : Builtin.Range.rangeSize 0 ((m * n : Nat) : Int) n = m := by
  unfold Builtin.Range.rangeSize
  have h1 : (n : Int) > 0 := by omega
  have h2 : (0 : Int) < ((m * n : Nat) : Int) := by
    have := Nat.mul_pos hm hn
    omega
  rw [if_pos h1, if_pos h2]
  have e : ((m * n : Nat) : Int) - 0 - 1 = (n - 1) + (m - 1 : Int) * n := by
    rw [Int.natCast_mul, Int.sub_mul]
    omega
  rw [e, Int.add_mul_ediv_right _ _ (by omega), Int.ediv_eq_zero_of_lt (by omega) (by omega)]
  omega
theorem rngC_vec {n m : Nat} : rngCU 0 (n : Int) m = vec m fun i => .int ((i * n : Nat) : Int) := by
  unfold rngCU vec
  simp
theorem lcV2_vec {t n : Nat} {body : Env → (List U → Prop) → Prop} {f : Nat → U} {g : Nat → List U} {η : Env} {QL : List U → Prop} (h : ∀ i, i < n → ∀ Q, body (η.set t (.va (f i))) Q = Q (g i)) : lcV2 (.nm t) vYes body η (vec n f) QL = QL ((List.range n).map g).flatten := by
  have go : ∀ (l : List Nat), (∀ i ∈ l, i < n) → ∀ QL : List U → Prop, lcV2 (.nm t) vYes body η (l.map f) QL = QL (l.map g).flatten := by
    intro l
    induction l with
    | nil => intro _ QL; rfl
    | cons i l ih =>
      intro hl QL
      rw [List.map_cons]
      unfold lcV2
      simp only [asgN, xYes, if_true]
      rw [h i (hl i List.mem_cons_self), ih fun j hj => hl j (List.mem_cons_of_mem _ hj)]
      rfl
  exact go _ (fun i hi => List.mem_range.mp hi) QL
end MI

set_option Elab.async false
set_option linter.all false
set_option maxRecDepth 100000
set_option maxHeartbeats 400000
set_option exponentiation.threshold 100000
namespace MI
open PySem PySem.Spec PyProof.Rows L2
theorem rep_vec {k : Nat} {x : U} : (List.replicate k [x]).flatten = vec k fun _ => x := by
  induction k with
  | zero => rfl
  | succ k ih =>
    rw [List.replicate_succ', List.flatten_append, ih, vec_succ]
    rfl
theorem xMulL {k : Nat} {x : U} {Q : U → Prop} (h : k ≤ 10000) : vMul (.lst [x]) (.int (k : Int)) Q = Q (.lst (vec k fun _ => x)) := by
  have e : vMul (.lst [x]) (.int (k : Int)) Q = (([x].length * (k : Int).toNat ≤ 16777216 ∧ (k : Int).natAbs < 2 ^ 60) ∧ Q (.lst (List.replicate (k : Int).toNat [x]).flatten)) := rfl
  rw [e, and_eq ⟨by simp; omega, by omega⟩, Int.toNat_natCast, rep_vec]
theorem xMulT {k : Nat} {x : U} {Q : U → Prop} (h : 2 ≤ k ∧ k ≤ 1000) : vMul (.tup [x]) (.int (k : Int)) Q = Q (.tup (vec k fun _ => x)) := by
  have e : vMul (.tup [x]) (.int (k : Int)) Q = ((([x].length ≠ 0 ∧ [x].length ≤ 1000) ∧ 2 ≤ (k : Int) ∧ (k : Int) ≤ 1000) ∧ Q (.tup (List.replicate (k : Int).toNat [x]).flatten)) := rfl
  rw [e, and_eq ⟨⟨by simp, by simp⟩, by omega, by omega⟩, Int.toNat_natCast, rep_vec]
/-- a loop by what holds ahead of each turn -/
theorem forV_some {t n : Nat} {body : VS} {f : Nat → U} {I : Nat → Env → Prop} {N : Env → Prop} {R : U → Prop} {X : XE} {η : Env} (h0 : I 0 η)
    (hs : ∀ m, m < n → ∀ η, I m η → ∀ (K N2 : Env → Prop), (∀ η2, I (m + 1) η2 → K η2) → body (η.set t (.va (f m))) K R X N2 K) (hn : ∀ η, I n η → N η) : forV (.nm t) body (vec n f) η N R X := by
  have go : ∀ k m, m + k = n → ∀ η, I m η → forV (.nm t) body ((vec n f).drop m) η N R X := by
    intro k
    induction k with
    | zero =>
      intro m hm η i
      have : m = n := by omega
      subst this
      rw [List.drop_eq_nil_of_le (by simp)]
      exact hn η i
    | succ k ih =>
      intro m hm η i
      rw [List.drop_eq_getElem_cons (by simp; omega)]
      have e1 : (vec n f)[m]'(by simp; omega) = f m := by simp [vec]
      rw [e1]
      unfold forV
      simp only [asgN]
      exact hs m (by omega) η i _ _ fun η2 i2 => ih (m + 1) (by omega) η2 i2
  have := go n 0 (by omega) η h0
  rwa [List.drop_zero] at this
theorem vec_set {n t : Nat} {f : Nat → U} {u : U} : (vec n f).set t u = vec n fun i => if i = t then u else f i := by
  apply List.ext_getElem?
  intro i
  by_cases hi : i < n
  · rw [vec_get hi]
    by_cases e : i = t
    · subst e
      rw [List.getElem?_set_self (by simpa using hi), if_pos rfl]
    · rw [List.getElem?_set_ne (Ne.symm e), vec_get hi, if_neg e]
  · rw [List.getElem?_eq_none (by simp; omega), List.getElem?_eq_none (by simp; omega)]
theorem sm_upd {n t : Nat} {f : Nat → Int} {v : Int} (h : t < n) : sm n (fun i => if i = t then v else f i) = sm n f - f t + v := by
  induction n with
  | zero => omega
  | succ n ih =>
    unfold sm
    by_cases e : t = n
    · subst e
      have : sm t (fun i => if i = t then v else f i) = sm t f := sm_congr fun i hi => by rw [if_neg (by omega)]
      rw [this, if_pos rfl]
      omega
    · rw [ih (by omega), if_neg (Ne.symm e)]
      omega
/-! texts of data -/
structure Pd (f d w : Nat) (u : U) : Prop where
  ok : ∃ p : PyData, (∀ n, f ≤ n → uPy n u = some p) ∧ p.showable = true ∧ p.leavesShort 141 = true ∧ p.weight ≤ w ∧ p.depth ≤ d
structure Pds (f d w : Nat) (us : List U) : Prop where
  ok : ∃ ps : List PyData, (∀ n, f + us.length + 1 ≤ n → uPys n us = some ps) ∧ PyData.showableAll ps = true ∧ PyData.leavesShortAll 141 ps = true ∧ PyData.weightAll ps ≤ us.length * (w + 1) ∧ PyData.depthAll ps ≤ d
theorem Pd.le {f d w f' d' w' : Nat} {u : U} (h : Pd f d w u) (hf : f ≤ f') (hd : d ≤ d') (hw : w ≤ w') : Pd f' d' w' u := by
  obtain ⟨p, a, b, c, e, g⟩ := h.ok
  exact ⟨p, fun n hn => a n (by omega), b, c, by omega, by omega⟩
theorem pds_of {f d w : Nat} : ∀ {us : List U}, (∀ x ∈ us, Pd f d w x) → Pds f d w us
  | [], _ => ⟨[], fun n hn => by
    obtain ⟨m, rfl⟩ : ∃ m, n = m + 1 := ⟨n - 1, by omega⟩
    rfl, rfl, rfl, Nat.zero_le _, Nat.zero_le _⟩
  | u :: us, h => by
    obtain ⟨p, a, b, c, e, g⟩ := (h u List.mem_cons_self).ok
    obtain ⟨ps, a', b', c', e', g'⟩ := (pds_of (us := us) fun x hx => h x (List.mem_cons_of_mem _ hx)).ok
    refine ⟨p :: ps, fun n hn => ?_, ?_, ?_, ?_, ?_⟩
    · rw [List.length_cons] at hn
      obtain ⟨m, rfl⟩ : ∃ m, n = m + 1 := ⟨n - 1, by omega⟩
      simp only [uPys, a m (by omega), a' m (by omega)]
    · simp only [PyData.showableAll, b, b', Bool.and_self]
    · simp only [PyData.leavesShortAll, c, c', Bool.and_self]
    · simp only [PyData.weightAll, List.length_cons, Nat.succ_mul]
      omega
    · simp only [PyData.depthAll]
      omega
theorem pd_tup {f d w : Nat} {us : List U} (h : ∀ x ∈ us, Pd f d w x) : Pd (f + us.length + 2) (d + 1) (us.length * (w + 1)) (.tup us) := by
  obtain ⟨ps, a, b, c, e, g⟩ := (pds_of h).ok
  refine ⟨.tuple ps, fun n hn => ?_, ?_, ?_, ?_, ?_⟩
  · obtain ⟨m, rfl⟩ : ∃ m, n = m + 1 := ⟨n - 1, by omega⟩
    simp only [uPy, a m (by omega), Option.map_some]
  · simpa only [PyData.showable] using b
  · simpa only [PyData.leavesShort] using c
  · simpa only [PyData.weight] using e
  · simp only [PyData.depth]; omega
theorem pd_lst {f d w : Nat} {us : List U} (h : ∀ x ∈ us, Pd f d w x) : Pd (f + us.length + 2) (d + 1) (us.length * (w + 1)) (.lst us) := by
  obtain ⟨ps, a, b, c, e, g⟩ := (pds_of h).ok
  refine ⟨.list ps, fun n hn => ?_, ?_, ?_, ?_, ?_⟩
  · obtain ⟨m, rfl⟩ : ∃ m, n = m + 1 := ⟨n - 1, by omega⟩
    simp only [uPy, a m (by omega), Option.map_some]
  · simpa only [PyData.showable] using b
  · simpa only [PyData.leavesShort] using c
  · simpa only [PyData.weight] using e
  · simp only [PyData.depth]; omega
theorem pd_int {i : Int} (h : i.natAbs < 2 ^ 140) : Pd 1 0 140 (.int i) := by
  have l := log2_lt h (by decide)
  refine ⟨.int i, fun n hn => ?_, ?_, ?_, ?_, ?_⟩
  · obtain ⟨m, rfl⟩ : ∃ m, n = m + 1 := ⟨n - 1, by omega⟩
    rfl
  · simp only [PyData.showable]; rw [decide_eq_true_eq]; omega
  · simp only [PyData.leavesShort]
    rw [decide_eq_true_eq]
    have : (PySem.Str.ofString (toString i)).length ≤ 141 := by
      rw [PySem.ofString_length]; exact PySem.int_text_length_le (k := 140) (by decide) l
    exact this
  · simp only [PyData.weight]
    split <;> omega
  · simp only [PyData.depth]; omega
theorem pd_bl {b : Bool} : Pd 1 0 140 (.bl b) := ⟨.bool b, fun n hn => by
    obtain ⟨m, rfl⟩ : ∃ m, n = m + 1 := ⟨n - 1, by omega⟩
    rfl, rfl, rfl, by simp only [PyData.weight]; omega, by simp only [PyData.depth]; omega⟩
theorem pd_non : Pd 1 0 140 .non := ⟨.none, fun n hn => by
    obtain ⟨m, rfl⟩ : ∃ m, n = m + 1 := ⟨n - 1, by omega⟩
    rfl, rfl, rfl, by simp only [PyData.weight]; omega, by simp only [PyData.depth]; omega⟩
theorem pd_str {x : Str} (h1 : (PyData.str x).leavesShort 141 = true) (h2 : x.cps.size ≤ 140) : Pd 1 0 140 (.str x) := ⟨.str x, fun n hn => by
    obtain ⟨m, rfl⟩ : ∃ m, n = m + 1 := ⟨n - 1, by omega⟩
    rfl, rfl, h1, by simp only [PyData.weight]; omega, by simp only [PyData.depth]; omega⟩
theorem Pd.shows {f d w : Nat} {u : U} (h : Pd f d w u) (hf : f ≤ 140) (hd : d ≤ 60) (hw : w ≤ 100000) : ∃ p : PyData, uPy fuelD u = some p ∧ MI.shows p = true := by
  obtain ⟨p, a, b, c, e, g⟩ := h.ok
  refine ⟨p, a _ hf, ?_⟩
  have l := PyData.shown_le 141 (by decide) p c
  have l2 : (141 + 2) * p.weight ≤ 143 * 100000 := Nat.mul_le_mul (by decide) (by omega)
  unfold MI.shows
  rw [b, decide_eq_true (show p.shown.length ≤ 16777216 by omega), decide_eq_true (show p.depth ≤ 60 by omega)]
  rfl
/-- the same texts of the same data -/
theorem repr_same {f d w : Nat} {u : U} {Q : U → Prop} (h : Pd f d w u) (hf : f ≤ 140) (hd : d ≤ 60) (hw : w ≤ 100000) : vRepr [u] (fun x => vRepr [u] fun y => vEqB false x y Q) = Q (.bl true) := by
  obtain ⟨p, e, s⟩ := h.shows hf hd hw
  unfold vRepr
  simp only [e, s, true_and, xEqS, decide_true]
end MI

set_option Elab.async false
set_option linter.all false
set_option maxRecDepth 100000
set_option maxHeartbeats 4000000
namespace MI
open PySem PySem.Spec PyProof.Rows L2
/-! ### plain evaluation -/
section
variable {α β : Type} {a : α} {d e x y : D} {S S1 S2 : Store} {ρ ρ1 : Sl} {c : Str}
@[simp] theorem bind_ok {k : α → Store → Res β} : (Res.ok a S).bind k = k a S := id rfl
@[simp] theorem bind_exc {k : α → Store → Res β} : (Res.exc c d S : Res α).bind k = .exc c d S := id rfl
@[simp] theorem bindR_ok {k : α → Store → SR} : SR.bindR (.ok a S) ρ k = k a S := id rfl
@[simp] theorem bindR_exc {k : α → Store → SR} : SR.bindR (.exc c d S : Res α) ρ k = .exc c d ρ S := id rfl
@[simp] theorem then_next {k : Sl → Store → SR} : (SR.next ρ S).then k = k ρ S := id rfl
@[simp] theorem then_ret {k : Sl → Store → SR} : (SR.ret d S).then k = .ret d S := id rfl
@[simp] theorem then_exc {k : Sl → Store → SR} : (SR.exc c d ρ S).then k = .exc c d ρ S := id rfl
@[simp] theorem then_brk {k : Sl → Store → SR} : (SR.brk ρ S).then k = .brk ρ S := id rfl
@[simp] theorem v_0 {r : Sl} : mV 0 (some d :: r) S = .ok d S := id rfl
@[simp] theorem v_1 {o r} : mV 1 (o :: some d :: r) S = .ok d S := id rfl
@[simp] theorem v_2 {o p r} : mV 2 (o :: p :: some d :: r) S = .ok d S := id rfl
@[simp] theorem v_3 {o p q r} : mV 3 (o :: p :: q :: some d :: r) S = .ok d S := id rfl
@[simp] theorem v_4 {o p q t r} : mV 4 (o :: p :: q :: t :: some d :: r) S = .ok d S := id rfl
@[simp] theorem v_5 {o p q t u r} : mV 5 (o :: p :: q :: t :: u :: some d :: r) S = .ok d S := id rfl
@[simp] theorem v_6 {o p q t u v r} : mV 6 (o :: p :: q :: t :: u :: v :: some d :: r) S = .ok d S := id rfl
@[simp] theorem v_7 {o p q t u v w r} : mV 7 (o :: p :: q :: t :: u :: v :: w :: some d :: r) S = .ok d S := id rfl
@[simp] theorem v_8 {o p q t u v w z r} : mV 8 (o :: p :: q :: t :: u :: v :: w :: z :: some d :: r) S = .ok d S := id rfl
@[simp] theorem ev_C : mC d ρ S = .ok d S := id rfl
@[simp] theorem ev_Op {g : D → D → Store → Res D} {a b : M D} : mOp g a b ρ S = (a ρ S).bind fun x S1 => (b ρ S1).bind fun y S2 => g x y S2 := id rfl
@[simp] theorem ev_Un {g : D → Store → Res D} {a : M D} : mUn g a ρ S = (a ρ S).bind g := id rfl
@[simp] theorem ev_Nil : mNil ρ S = .ok [] S := id rfl
@[simp] theorem ev_Cons {a : M D} {r : M (List D)} : mCons a r ρ S = (a ρ S).bind fun x S1 => (r ρ S1).bind fun xs S2 => .ok (x :: xs) S2 := id rfl
@[simp] theorem ev_App {g : List D → Store → Res D} {m : M (List D)} : mApp g m ρ S = (m ρ S).bind g := id rfl
@[simp] theorem ev_Tru {m : M D} : mTru m ρ S = (m ρ S).bind fun d S1 => match gTru d S1 with
  | some b => .ok b S1
  | none => .no := id rfl
@[simp] theorem ev_Tst {m : M D} : mTst m ρ S = (m ρ S).bind fun d S1 => match isB d with
  | some b => .ok b S1
  | none => .no := id rfl
@[simp] theorem ev_And {a b : M Bool} : mAnd a b ρ S = (a ρ S).bind fun c S1 => if c = true then b ρ S1 else .ok false S1 := id rfl
@[simp] theorem ev_Or {a b : M Bool} : mOr a b ρ S = (a ρ S).bind fun c S1 => if c = true then .ok true S1 else b ρ S1 := id rfl
@[simp] theorem ev_Not {a : M Bool} : mNot a ρ S = (a ρ S).bind fun c S1 => .ok (!c) S1 := id rfl
@[simp] theorem ev_AndV {a b : M D} : mAndV a b ρ S = (a ρ S).bind fun x S1 => match isB x with
  | some c => if c = true then b ρ S1 else .ok (.bl false) S1
  | none => .no := id rfl
@[simp] theorem ev_OrV {a b : M D} : mOrV a b ρ S = (a ρ S).bind fun x S1 => match isB x with
  | some c => if c = true then .ok (.bl true) S1 else b ρ S1
  | none => .no := id rfl
@[simp] theorem ev_NotV {a : M D} : mNotV a ρ S = (a ρ S).bind fun x S1 => match isB x with
  | some c => .ok (.bl (!c)) S1
  | none => .no := id rfl
@[simp] theorem ev_If {c : M Bool} {a b : M α} : mIf c a b ρ S = (c ρ S).bind fun c S1 => if c = true then a ρ S1 else b ρ S1 := id rfl
@[simp] theorem tru_bl {b : Bool} : gTru (.bl b) S = some b := id rfl
@[simp] theorem isB_bl {b : Bool} : isB (.bl b) = some b := id rfl
@[simp] theorem ev_Seq {a b : MS} : sSeq a b ρ S = (a ρ S).then b := id rfl
@[simp] theorem ev_sIf {c : M Bool} {a b : MS} : sIf c a b ρ S = SR.bindR (c ρ S) ρ fun c S1 => if c = true then a ρ S1 else b ρ S1 := id rfl
@[simp] theorem ev_Ret {m : M D} : sRet m ρ S = SR.bindR (m ρ S) ρ fun d S1 => .ret d S1 := id rfl
@[simp] theorem ev_Expr {m : M D} : sExpr m ρ S = SR.bindR (m ρ S) ρ fun _ S1 => .next ρ S1 := id rfl
@[simp] theorem ev_Asg {i : Nat} {m : M D} : sAsg (.nm i) m ρ S = SR.bindR (m ρ S) ρ fun d S1 => .next (ρ.set i (some d)) S1 := id rfl
@[simp] theorem ev_Par {i j : Nat} {a b : M D} : sPar i j a b ρ S = SR.bindR (a ρ S) ρ fun x S1 => SR.bindR (b ρ S1) ρ fun y S2 => .next ((ρ.set i (some x)).set j (some y)) S2 := id rfl
@[simp] theorem ev_Pass : sPass ρ S = .next ρ S := id rfl
@[simp] theorem ev_Brk : sBrk ρ S = .brk ρ S := id rfl
@[simp] theorem ev_Raise {m : M D} : sRaise c m ρ S = SR.bindR (m ρ S) ρ fun d S1 => .exc c d ρ S1 := id rfl
@[simp] theorem ev_Set {o i e : M D} : sSet o i e ρ S = SR.bindR (e ρ S) ρ fun d S1 => SR.bindR (o ρ S1) ρ fun x S2 => SR.bindR (i ρ S2) ρ fun y S3 => match gSet x y d S3 with
  | .ok _ S4 => .next ρ S4
  | _ => .no := id rfl
/-! numbers -/
@[simp] theorem g_add {i j : Int} : gAdd (.int i) (.int j) S = .ok (.int (i + j)) S := id rfl
@[simp] theorem g_sub {i j : Int} : gSub (.int i) (.int j) S = .ok (.int (i - j)) S := id rfl
@[simp] theorem g_lt {i j : Int} : gLt (.int i) (.int j) S = .ok (.bl (decide (i < j))) S := id rfl
@[simp] theorem g_le {i j : Int} : gLe (.int i) (.int j) S = .ok (.bl (decide (i ≤ j))) S := id rfl
@[simp] theorem g_gt {i j : Int} : gGt (.int i) (.int j) S = .ok (.bl (decide (j < i))) S := id rfl
@[simp] theorem g_ge {i j : Int} : gGe (.int i) (.int j) S = .ok (.bl (decide (j ≤ i))) S := id rfl
@[simp] theorem g_neg {i : Int} : gNeg (.int i) S = .ok (.int (-i)) S := id rfl
theorem g_mul {i j : Int} (h : mulOk i j = true) : gMul (.int i) (.int j) S = .ok (.int (i * j)) S := if_pos h
theorem g_div {i j : Int} (h : cDiv i j = true) : gDiv (.int i) (.int j) S = .ok (.int (i.fdiv j)) S := if_pos h
theorem g_mod {i j : Int} (h : j ≠ 0) : gMod (.int i) (.int j) S = .ok (.int (i.fmod j)) S := if_pos (by simpa [cMod] using h)
theorem g_pow {i j : Int} (h : cPow i j = true) : gPow (.int i) (.int j) S = .ok (.int (i ^ j.toNat)) S := if_pos h
@[simp] theorem g_eqI {i j : Int} : gEq (.int i) (.int j) S = .ok (.bl (decide (i = j))) S := by
  show (if SeqAt.shaped (.int i) = true ∧ SeqAt.shaped (.int j) = true then Res.ok (D.bl (PyData.eqv (.int i) (.int j))) S else .no) = _
  rw [if_pos ⟨by simp [SeqAt.shaped, PyData.canLay0, PyData.depth], by simp [SeqAt.shaped, PyData.canLay0, PyData.depth]⟩]
  congr 2
@[simp] theorem g_neI {i j : Int} : gNe (.int i) (.int j) S = .ok (.bl (!decide (i = j))) S := by
  show (if SeqAt.shaped (.int i) = true ∧ SeqAt.shaped (.int j) = true then Res.ok (D.bl (!PyData.eqv (.int i) (.int j))) S else .no) = _
  rw [if_pos ⟨by simp [SeqAt.shaped, PyData.canLay0, PyData.depth], by simp [SeqAt.shaped, PyData.canLay0, PyData.depth]⟩]
  congr 2
@[simp] theorem g_int {i : Int} : gInt [.int i] S = .ok (.int i) S := id rfl
@[simp] theorem g_intB {b : Bool} : gInt [.bl b] S = .ok (.int (if b then 1 else 0)) S := id rfl
@[simp] theorem g_abs {i : Int} : gAbs [.int i] S = .ok (.int i.natAbs) S := by
  show Res.ok (D.int (if i < 0 then -i else i)) S = _
  split <;> congr 2 <;> omega
@[simp] theorem g_max2 {i j : Int} : gMax2 [.int i, .int j] S = .ok (.int (if j > i then j else i)) S := id rfl
@[simp] theorem g_gcd {a b : Int} : gGcd [.int a, .int b] S = .ok (.int ((Nat.gcd a.natAbs b.natAbs : Nat) : Int)) S := id rfl
theorem g_tup {xs : List D} (h : xs.length ≤ 16777216) : gTup xs S = .ok (.tup xs) S := if_pos h
theorem g_lst {xs : List D} (h : xs.length ≤ 16777216) : gLst xs S = .ok (.ref S.length) (S ++ [.lst xs]) := if_pos h
theorem ix_t {xs : List D} {i : Int} {d : D} (h : L2.atI xs i = some d) : gIx (.tup xs) (.int i) S = .ok d S := by
  show (match L2.atI xs i with
    | some d => Res.ok d S
    | none => .no) = _
  rw [h]
@[simp] theorem ix_t0 {x : D} {xs : List D} : gIx (.tup (x :: xs)) (.int 0) S = .ok x S := ix_t (by first | exact atI_nat (j := 0) rfl | exact atI_nat (j := 1) rfl)
@[simp] theorem ix_t1 {x y : D} {xs : List D} : gIx (.tup (x :: y :: xs)) (.int 1) S = .ok y S := ix_t (by first | exact atI_nat (j := 0) rfl | exact atI_nat (j := 1) rfl)
theorem ix_r {a : Nat} {xs : List D} {i : Int} {d : D} (hs : S[a]? = some (.lst xs)) (h : L2.atI xs i = some d) : gIx (.ref a) (.int i) S = .ok d S := by
  show (match (match S[a]? with
    | some (.lst xs) => some xs
    | _ => none) with
    | some ds => (match L2.atI ds i with
      | some d => Res.ok d S
      | none => .no)
    | none => .no) = _
  rw [hs]
  show (match L2.atI xs i with
      | some d => Res.ok d S
      | none => .no) = _
  rw [h]
theorem set_r {a : Nat} {xs : List D} {k : Nat} {d : D} (hs : S[a]? = some (.lst xs)) (hk : k < xs.length) : gSet (.ref a) (.int k) d S = .ok () (S.set a (.lst (xs.set k d))) := by
  unfold gSet
  simp only [hs]
  have e : ixN xs.length (k : Int) = some k := by
    unfold ixN
    simp [hk]
  rw [e]
/-! calls' ends -/
theorem keeps_app {n : Nat} : ∀ {S : Store} {T : Store}, keeps n S (S ++ T) = true
  | [], _ => rfl
  | c :: S, T => by simp only [List.cons_append, keeps, Cell.beq_refl, Bool.true_or, Bool.true_and]; exact keeps_app
theorem keeps_set {n : Nat} {c : Cell} (h : cellBelow n c = true) : ∀ {S : Store} {T : Store} {i : Nat}, keeps n S (S.set i c ++ T) = true
  | [], _, _ => rfl
  | c0 :: S, T, 0 => by simp only [List.set_cons_zero, List.cons_append, keeps, h, Bool.or_true, Bool.true_and]; exact keeps_app
  | c0 :: S, T, i + 1 => by simp only [List.set_cons_succ, List.cons_append, keeps, Cell.beq_refl, Bool.true_or, Bool.true_and]; exact keeps_set h
theorem ret_keep (k : keeps S.length S S1 = true) (b : below S.length d = true) : retOf S d S1 = .ok d (S1.take S.length) := by
  unfold retOf
  rw [if_pos k, if_pos b]
theorem ret_app {T : Store} (b : below S.length d = true) : retOf S d (S ++ T) = .ok d S := by
  rw [ret_keep keeps_app b, List.take_left]
theorem ret_same : retOf S d S = .ok d S := by
  by_cases b : below S.length d = true
  · have := ret_app (T := []) b
    rwa [List.append_nil] at this
  · unfold retOf
    rw [if_neg b]
    split
    · split
      · split
        · rename_i i _ _ h
          have hi := (List.getElem?_eq_some_iff.mp h).1
          exact absurd (by simpa [below] using hi) b
        · rfl
      · rfl
    · rfl
theorem ret_set {T : Store} {i : Nat} {c : Cell} (h : cellBelow S.length c = true) (b : below S.length d = true) : retOf S d (S.set i c ++ T) = .ok d (S.set i c) := by
  rw [ret_keep (keeps_set h) b]
  congr 1
  rw [List.take_append_of_le_length (by simp), List.take_of_length_le (by simp)]
theorem fn_ret {n : Nat} {b : MS} {ds : List D} {r : Res D} (h : b (ds.map some ++ List.replicate (n - ds.length) none) S = .ret d S1) (e : retOf S d S1 = r) : fnOf n b ds S = r := by
  unfold fnOf
  rw [h]
  exact e
theorem fn_next {n : Nat} {b : MS} {ds : List D} {r : Res D} (h : b (ds.map some ++ List.replicate (n - ds.length) none) S = .next ρ S1) (e : retOf S .non S1 = r) : fnOf n b ds S = r := by
  unfold fnOf
  rw [h]
  exact e
theorem fn_exc {n : Nat} {b : MS} {ds : List D} {r : Res D} (h : b (ds.map some ++ List.replicate (n - ds.length) none) S = .exc c d ρ S1) (e : excOf S c d S1 = r) : fnOf n b ds S = r := by
  unfold fnOf
  rw [h]
  exact e
end
end MI

set_option Elab.async false
set_option linter.all false
set_option maxRecDepth 100000
set_option maxHeartbeats 4000000
set_option exponentiation.threshold 100000
namespace MI.K02
open PySem PySem.Spec PyProof.Rows L2 MI
variable {S : Store}
theorem pow27 : gPow (.int 10) (.int 27) S = .ok (.int 1000000000000000000000000000) S := (g_pow (by decide)).trans rfl
theorem pow23 : gPow (.int 10) (.int 23) S = .ok (.int 100000000000000000000000) S := (g_pow (by decide)).trans rfl
theorem pow24 : gPow (.int 10) (.int 24) S = .ok (.int 1000000000000000000000000) S := (g_pow (by decide)).trans rfl
theorem pow18 : gPow (.int 10) (.int 18) S = .ok (.int 1000000000000000000) S := (g_pow (by decide)).trans rfl
theorem fmod_bd {a m : Int} (h : 0 < m) : 0 ≤ a.fmod m ∧ a.fmod m < m := by
  rw [Int.fmod_eq_emod_of_nonneg _ (by omega)]
  exact ⟨Int.emod_nonneg _ (by omega), Int.emod_lt_of_pos _ h⟩
def stir (x k : Int) : Int := ((x + k * 17624813) ^ (3 : Int).toNat).fmod (1000000000000000000000000000 + 103)
def pick (st m : Int) : Int := (((st ^ (2 : Int).toNat + st.fdiv 7907).fmod (100000000000000000000000 + 117)).fdiv 10007).fmod m
def w_drop : VFT := fun xs Q _ => match xs with
  | [.jug, .int m] => (0 < m ∧ m.natAbs < 2 ^ 8000) ∧ ∀ n : Int, 0 ≤ n → n < m → Q (.int n)
  | _ => False
def w_jug : VFT := fun xs Q _ => match xs with
  | [.int c, .int k] => (c.natAbs.log2 ≤ 1048576 ∧ 0 ≤ k ∧ k < 64) ∧ Q .jug
  | _ => False
theorem drop_out {K : Nat} {P X : List Nat} {i : Nat} {m : Int} {Q : U → Prop} {E : Str → U → Prop} (hK : K + 1 ≤ KM) (w : Wd K P X S) (hi : i ∈ P) (hm : 0 < m) (hm2 : m.natAbs < 2 ^ 8000) (q : ∀ n : Int, 0 ≤ n → n < m → Q (.int n)) : Out RV (K + 1) P X S (f_drop [.ref i, .int m] S) Q E := by
  obtain ⟨a, x, k, hS, x0, x1, k0, k1⟩ := w.jug i hi
  have lt : i < S.length := (List.getElem?_eq_some_iff.mp hS).1
  have i0 : gIx (.ref i) (.int 0) S = .ok (.int a) S := ix_r hS (atI_nat (j := 0) rfl)
  have i1 : gIx (.ref i) (.int 2) S = .ok (.int k) S := ix_r hS (atI_nat (j := 2) rfl)
  have cb : ∀ a x k : Int, cellBelow S.length (.lst [.int a, .int x, .int k]) = true := fun a x k => by simp [cellBelow, belows, below]
  have rs : ∀ (r : Int) (c : Cell), cellBelow S.length c = true → retOf S (.int r) (S.set i c) = .ok (.int r) (S.set i c) := fun r c hc => by
    have := ret_set (S := S) (T := []) (i := i) (d := .int r) hc (by simp [below])
    rwa [List.append_nil] at this
  have m0 : m ≠ 0 := by omega
  have cm : ∀ z, cDiv z m = true := fun z => cDiv_of m0 (Nat.lt_trans hm2 (by decide +kernel))
  have fin : ∀ (r a' k' : Int), 0 ≤ r → r < m → 0 ≤ k' → k' ≤ K + 1 → f_drop [.ref i, .int m] S = .ok (.int r) (S.set i (.lst [.int a', .int x, .int k'])) → Out RV (K + 1) P X S (f_drop [.ref i, .int m] S) Q E := fun r a' k' r0 r1 h0 h1 e => by
    rw [e]
    refine ⟨P, .int r, ⟨fun _ h => h, fun _ h => .inl h, fun j c hj hp _ => by rw [List.getElem?_set_ne (fun z : i = j => hp (by rw [← z]; exact hi))]; exact hj, by simp⟩, ⟨fun j hj => ?_, w.cl.set (cb _ _ _), fun b hb => by rw [List.length_set]; exact w.xl b hb⟩, .int r, q r r0 r1⟩
    by_cases hji : j = i
    · subst hji
      exact ⟨a', x, k', by rw [List.getElem?_set_self lt], x0, x1, h0, by omega⟩
    · obtain ⟨b, y, l, e2, z1, z2, z3, z4⟩ := w.jug j hj
      exact ⟨b, y, l, by rw [List.getElem?_set_ne (Ne.symm hji)]; exact e2, z1, z2, z3, by omega⟩
  by_cases ha : 0 < a
  · refine fin (a.fmod m) (a.fdiv m) k (fmod_bd hm).1 (fmod_bd hm).2 k0 (by omega) (fn_ret (S1 := S.set i (.lst [.int (a.fdiv m), .int x, .int k])) ?_ (rs _ _ (cb _ _ _)))
    have gs : gSet (.ref i) (.int 0) (.int (a.fdiv m)) S = .ok () (S.set i (.lst [.int (a.fdiv m), .int x, .int k])) := set_r (k := 0) hS (by simp)
    simp [b_drop, i0, ha, g_mod m0, g_div (cm _), gs]
  · have gs : gSet (.ref i) (.int 2) (.int (k + 1)) S = .ok () (S.set i (.lst [.int a, .int x, .int (k + 1)])) := set_r (k := 2) hS (by simp)
    have hS1 : (S.set i (.lst [.int a, .int x, .int (k + 1)]))[i]? = some (.lst [.int a, .int x, .int (k + 1)]) := by rw [List.getElem?_set_self lt]
    have j1 : gIx (.ref i) (.int 1) (S.set i (.lst [.int a, .int x, .int (k + 1)])) = .ok (.int x) (S.set i (.lst [.int a, .int x, .int (k + 1)])) := ix_r hS1 (atI_nat (j := 1) rfl)
    have j2 : gIx (.ref i) (.int 2) (S.set i (.lst [.int a, .int x, .int (k + 1)])) = .ok (.int (k + 1)) (S.set i (.lst [.int a, .int x, .int (k + 1)])) := ix_r hS1 (atI_nat (j := 2) rfl)
    have kb : (k + 1).natAbs < 2 ^ 8001 := by
      have h1 : (k + 1).natAbs ≤ KM := by omega
      unfold KM at h1
      exact Nat.lt_of_le_of_lt h1 (by decide +kernel)
    have pb : ((k + 1) * 17624813).natAbs < 2 ^ 8101 := mul_lt2 (m := 8001) (n := 100) kb (by decide)
    have xb : x.natAbs < 2 ^ 8101 := Nat.lt_of_lt_of_le (show x.natAbs < 2 ^ 100 by omega) (Nat.pow_le_pow_right (by decide) (by decide))
    have sb : (x + (k + 1) * 17624813).natAbs < 2 ^ 8102 := add_lt2 (m := 8101) xb pb
    have q1 : mulOk (k + 1) 17624813 = true := mulOk_of (m := 8001) (n := 64) kb (by decide) (by decide)
    have q2 : cPow (x + (k + 1) * 17624813) 3 = true := by
      have := log2_lt sb (by decide)
      unfold cPow
      simp
      omega
    have s0 := fmod_bd (a := (x + (k + 1) * 17624813) ^ (3 : Int).toNat) (m := 1000000000000000000000000000 + 103) (by decide)
    have q3 : cPow (stir x (k + 1)) 2 = true := by
      have : (stir x (k + 1)).natAbs.log2 < 100 := log2_lt (show (stir x (k + 1)).natAbs < 2 ^ 100 by unfold stir; omega) (by decide)
      unfold cPow
      simp
      omega
    refine fin (pick (stir x (k + 1)) m) a (k + 1) (fmod_bd hm).1 (fmod_bd hm).2 (by omega) (by omega) (fn_ret (S1 := S.set i (.lst [.int a, .int x, .int (k + 1)])) (d := .int (pick (stir x (k + 1)) m)) ?_ (rs _ _ (cb _ _ _)))
    have d1 : cDiv (stir x (k + 1)) 7907 = true := cDiv_of (by decide) (by decide +kernel)
    have d2 : ∀ z, cDiv z 10007 = true := fun z => cDiv_of (by decide) (by decide +kernel)
    have n1 : (1000000000000000000000000000 + 103 : Int) ≠ 0 := by decide
    have n2 : (100000000000000000000000 + 117 : Int) ≠ 0 := by decide
    have e1 : ((x + (k + 1) * 17624813) ^ (3 : Int).toNat).fmod (1000000000000000000000000000 + 103) = stir x (k + 1) := rfl
    simp only [b_drop, ev_Seq, ev_sIf, ev_Tst, ev_Op, ev_C, List.map_cons, List.map_nil, List.length_cons, List.length_nil, List.replicate, List.cons_append, List.nil_append, v_0, v_1, v_2, v_3, bind_ok, bindR_ok, then_next, then_ret, i0, g_gt, isB_bl, ha, decide_false, Bool.false_eq_true, if_false, ev_Pass, ev_Set, i1, g_add, gs, ev_Asg, ev_App, ev_Cons, ev_Nil, j1, j2, g_mul q1, g_pow q2, g_int, pow27, pow23, g_mod n1, g_mod n2, g_mod m0, e1, List.set_cons_zero, List.set_cons_succ, ev_Ret, g_pow q3, g_div d1, g_div (d2 _), Nat.reduceAdd, Nat.reduceSub]
    rfl
instance : SF f_drop w_drop 1 := ⟨fun xs Q E q K P X S ds hK w v => by
  unfold w_drop at q
  split at q
  · obtain ⟨d, e, rfl, v1, v2⟩ := v.two
    obtain ⟨i, rfl, hi⟩ := v1.jug_inv
    rw [v2.int_inv]
    exact drop_out hK w hi q.1.1 q.1.2 q.2
  · exact q.elim⟩
theorem ret_new {S1 : Store} {k : Nat} {xs : List D} (hk : S.length ≤ k) (h : S1[k]? = some (.lst xs)) (b : belows S.length xs = true) (kp : keeps S.length S S1 = true) : retOf S (.ref k) S1 = .ok (.ref S.length) (S1.take S.length ++ [.lst xs]) := by
  have nb : ¬ below S.length (.ref k) = true := by simp [below]; omega
  unfold retOf
  rw [if_pos kp, if_neg nb]
  simp only [h, b, if_true]
theorem f_jug_eq {c k : Int} (hc : c.natAbs.log2 ≤ 1048576) (hk : 0 ≤ k) (hk8 : k ≤ 63) : ∃ a x : Int, f_jug [.int c, .int k] S = .ok (.ref S.length) (S ++ [.lst [.int a, .int x, .int 0]]) ∧ 0 ≤ x ∧ x < 10000000000000000000000000 := by
  have q1 : mulOk c 32452843 = true := by
    have : (32452843 : Int).natAbs.log2 < 30 := log2_lt (by decide) (by decide)
    unfold mulOk
    rw [decide_eq_true_eq]
    omega
  have q2 : mulOk (k + 11) 49979687 = true := mulOk_of (m := 30) (n := 30) (by omega) (by decide) (by decide)
  have m0 : (1000000000000000000000000 + 7 : Int) ≠ 0 := by decide
  have b := fmod_bd (a := c * 32452843 + (k + 11) * 49979687) (m := 1000000000000000000000000 + 7) (by decide)
  refine ⟨if c - 1000000000000000000 > 0 then c - 1000000000000000000 else 0, (c * 32452843 + (k + 11) * 49979687).fmod (1000000000000000000000000 + 7), ?_, b.1, by omega⟩
  refine fn_ret (S1 := S ++ [.lst [.int (if c - 1000000000000000000 > 0 then c - 1000000000000000000 else 0), .int ((c * 32452843 + (k + 11) * 49979687).fmod (1000000000000000000000000 + 7)), .int 0]]) (d := .ref S.length) ?_ ((ret_new (Nat.le_refl _) (by rw [List.getElem?_append_right (Nat.le_refl _), Nat.sub_self]; rfl) (by simp [belows, below]) keeps_app).trans (by rw [List.take_left]))
  simp only [b_jug, List.map_cons, List.map_nil, List.length_cons, List.length_nil, List.replicate, List.cons_append, List.nil_append, Nat.reduceAdd, Nat.reduceSub, ev_Ret, ev_App, ev_Cons, ev_Nil, ev_C, ev_Op, v_0, v_1, bind_ok, pow18, pow24, g_sub, g_max2, g_mul q1, g_mul q2, g_add, g_int, g_mod m0]
  rw [g_lst (by simp)]
  rfl
instance : SF f_jug w_jug 1 := ⟨fun xs Q E q K P X S ds hK w v => by
  unfold w_jug at q
  split at q
  · rename_i c k
    obtain ⟨d, e, rfl, v1, v2⟩ := v.two
    rw [v1.int_inv, v2.int_inv]
    obtain ⟨a, x, e, x0, x1⟩ := f_jug_eq (S := S) q.1.1 q.1.2.1 (by omega)
    rw [e]
    have cb : cellBelow (S.length + 1) (.lst [.int a, .int x, .int 0]) = true := by simp [cellBelow, belows, below]
    have w2 := w.app cb
    refine ⟨S.length :: P, .jug, ⟨fun i h => List.mem_cons_of_mem _ h, fun i h => ?_, fun i c' hc _ _ => by rw [List.getElem?_append_left (lt_of_get hc)]; exact hc, by simp⟩, ⟨fun i h => ?_, w2.cl, w2.xl⟩, .jug List.mem_cons_self, q.2⟩
    · rcases List.mem_cons.mp h with h | h
      · exact .inr (by omega)
      · exact .inl h
    · rcases List.mem_cons.mp h with h | h
      · subst h
        exact ⟨a, x, 0, by simp, x0, by omega, by omega, by omega⟩
      · exact (w2.le (K' := K + 1) (by omega)).jug i h
  · exact q.elim⟩
end MI.K02

set_option Elab.async false
set_option linter.all false
set_option maxRecDepth 100000
set_option maxHeartbeats 4000000
set_option synthInstance.maxHeartbeats 4000000
set_option synthInstance.maxSize 100000
set_option exponentiation.threshold 100000
namespace MI.K02
open PySem PySem.Spec PyProof.Rows L2 MI
abbrev u_ONE : List U := [.int 1, .int 1]
instance : DU (.tup d_ONE) (.tup u_ONE) := ⟨fun _ _ _ => .tup (.cons (.int _) (.cons (.int _) (.nil)))⟩
abbrev u_ZERO : List U := [.int 0, .int 1]
instance : DU (.tup d_ZERO) (.tup u_ZERO) := ⟨fun _ _ _ => .tup (.cons (.int _) (.cons (.int _) (.nil)))⟩
def v_column : VS := wSeq (wOwn 3 (vFMul (vApp (vFN vLst) (vCons (vC (.int 0)) vNil)) (vV 1)))
    (wSeq (wAsg (.nm 4) (vApp w_drop (vCons (vV 0) (vCons (vC (.int 6)) vNil))))
    (wSeq (wAsg (.nm 5) (vApp w_drop (vCons (vV 0) (vCons (vV 1) vNil))))
    (wSeq (wIf (vTst (vOp vEq (vV 4) (vC (.int 0)))) (wSeq (wSetO 3 (vV 5) (vV 2))
    (wFrz 3 (wRet (vV 3)))) wPass)
    (wSeq (wAsg (.nm 6) (vV 2))
    (wSeq (wFor (.nm 7) (vRng1 (vOp vMul (vV 1) (vApp (vFN vInt) (vCons (vOp vGt (vV 4) (vC (.int 1))) vNil)))) (wSeq (wSetO 3 (vOp vMod (vApp (vFN vInt) (vCons (vOp vAdd (vV 5) (vV 7)) vNil)) (vV 1)) (vApp w_drop (vCons (vV 0) (vCons (vOp vAdd (vV 6) (vC (.int 1))) vNil))))
    (wAsg (.nm 6) (vOp vSub (vV 6) (vIxO 3 (vOp vMod (vApp (vFN vInt) (vCons (vOp vAdd (vV 5) (vV 7)) vNil)) (vV 1)))))))
    (wSeq (wIf (vTst (vOp vGt (vV 4) (vC (.int 3)))) (wSetO 3 (vV 5) (vOp vAdd (vIxO 3 (vV 5)) (vV 6))) wPass)
    (wFrz 3 (wRet (vV 3)))))))))
def w_column : VFT := wFn 8 v_column
instance : SF f_column w_column (2 ^ 63) := SF.weak (inferInstance : SF (fnOf 8 (sSeq (sOwn 3 (mOp gMul (mApp gLst (mCons (mC (.int 0)) (mNil))) (mV 1))) (sSeq (sAsg (.nm 4) (mApp f_drop (mCons (mV 0) (mCons (mC (.int 6)) (mNil))))) (sSeq (sAsg (.nm 5) (mApp f_drop (mCons (mV 0) (mCons (mV 1) (mNil))))) (sSeq (sIf (mTst (mOp gEq (mV 4) (mC (.int 0)))) (sSeq (sSetO 3 (mV 5) (mV 2)) (sFrz 3 (sRet (mV 3)))) (sPass)) (sSeq (sAsg (.nm 6) (mV 2)) (sSeq (sFor (.nm 7) (mRng1 (mOp gMul (mV 1) (mApp gInt (mCons (mOp gGt (mV 4) (mC (.int 1))) (mNil))))) (sSeq (sSetO 3 (mOp gMod (mApp gInt (mCons (mOp gAdd (mV 5) (mV 7)) (mNil))) (mV 1)) (mApp f_drop (mCons (mV 0) (mCons (mOp gAdd (mV 6) (mC (.int 1))) (mNil))))) (sAsg (.nm 6) (mOp gSub (mV 6) (mIxO 3 (mOp gMod (mApp gInt (mCons (mOp gAdd (mV 5) (mV 7)) (mNil))) (mV 1))))))) (sSeq (sIf (mTst (mOp gGt (mV 4) (mC (.int 3)))) (sSetO 3 (mV 5) (mOp gAdd (mIxO 3 (mV 5)) (mV 6))) (sPass)) (sFrz 3 (sRet (mV 3))))))))))) (wFn 8 v_column) _) (by decide +kernel)
def v_draw : VS := wSeq (wAsg (.nm 2) (vBox (vLc (.nm 3) [3] (vRng1 (vV 1)) vYes (vOp vIx (vApp (vFN vLst) (vCons (vC (.int 2)) (vCons (vC (.int 3)) (vCons (vC (.int 4)) (vCons (vC (.int 12)) (vCons (vOp vPow (vC (.int 10)) (vC (.int 9))) (vCons (vOp vPow (vC (.int 10)) (vC (.int 38))) vNil))))))) (vApp w_drop (vCons (vV 0) (vCons (vOp vSub (vC (.int 6)) (vOp vMul (vC (.int 2)) (vApp (vFN vInt) (vCons (vOp vGt (vV 1) (vC (.int 5))) vNil)))) vNil)))))))
    (wSeq (wAsg (.nm 4) (vBox (vLc (.nm 5) [5] (vSrc (vV 2)) vYes (vApp w_column (vCons (vV 0) (vCons (vV 1) (vCons (vV 5) vNil)))))))
    (wRet (vApp (vFN vTup) (vCons (vV 4) (vCons (vV 2) vNil)))))
def w_draw : VFT := wFn 6 v_draw
instance : SF f_draw w_draw (2 ^ 87) := SF.weak (inferInstance : SF (fnOf 6 (sSeq (sAsg (.nm 2) (mBox (mLc (.nm 3) [3] (mRng1 (mV 1)) (mYes) (mOp gIx (mApp gLst (mCons (mC (.int 2)) (mCons (mC (.int 3)) (mCons (mC (.int 4)) (mCons (mC (.int 12)) (mCons (mOp gPow (mC (.int 10)) (mC (.int 9))) (mCons (mOp gPow (mC (.int 10)) (mC (.int 38))) (mNil)))))))) (mApp f_drop (mCons (mV 0) (mCons (mOp gSub (mC (.int 6)) (mOp gMul (mC (.int 2)) (mApp gInt (mCons (mOp gGt (mV 1) (mC (.int 5))) (mNil))))) (mNil)))))))) (sSeq (sAsg (.nm 4) (mBox (mLc (.nm 5) [5] (mSrc (mV 2)) (mYes) (mApp f_column (mCons (mV 0) (mCons (mV 1) (mCons (mV 5) (mNil)))))))) (sRet (mApp gTup (mCons (mV 4) (mCons (mV 2) (mNil)))))))) (wFn 6 v_draw) _) (by decide +kernel)
def v_low : VS := wSeq (wAsg (.nm 2) (vApp (vFN vAbs) (vCons (vV 0) vNil)))
    (wSeq (wAsg (.nm 3) (vV 1))
    (wSeq (wFor (.nm 4) (vRng1 (vC (.int 20000))) (wSeq (wIf (vTst (vOp vEq (vV 3) (vC (.int 0)))) wBrk wPass)
    (wPar 2 3 (vV 3) (vOp vMod (vApp (vFN vInt) (vCons (vV 2) vNil)) (vV 3)))))
    (wRet (vApp (vFN vTup) (vCons (vOp vDiv (vV 0) (vV 2)) (vCons (vOp vDiv (vV 1) (vV 2)) vNil))))))
def w_low : VFT := wFn 5 v_low
instance : SF f_low w_low (2 ^ 0) := SF.weak (inferInstance : SF (fnOf 5 (sSeq (sAsg (.nm 2) (mApp gAbs (mCons (mV 0) (mNil)))) (sSeq (sAsg (.nm 3) (mV 1)) (sSeq (sFor (.nm 4) (mRng1 (mC (.int 20000))) (sSeq (sIf (mTst (mOp gEq (mV 3) (mC (.int 0)))) (sBrk) (sPass)) (sPar 2 3 (mV 3) (mOp gMod (mApp gInt (mCons (mV 2) (mNil))) (mV 3))))) (sRet (mApp gTup (mCons (mOp gDiv (mV 0) (mV 2)) (mCons (mOp gDiv (mV 1) (mV 2)) (mNil))))))))) (wFn 5 v_low) _) (by decide +kernel)
def v_table_of : VS := wSeq (wOwn 2 (vFLst vNil))
    (wSeq (wFor (.nm 3) (vRng1 (vApp (vFN vLen) (vCons (vV 0) vNil))) (wAppO 2 (vL vTupL (vLc (.nm 4) [4] (vRng1 (vApp (vFN vLen) (vCons (vV 0) vNil))) vYes (vApp w_low (vCons (vOp vIx (vOp vIx (vV 0) (vV 4)) (vV 3)) (vCons (vOp vIx (vV 1) (vV 4)) vNil)))))))
    (wFrz 2 (wRet (vApp (vFN vTuple) (vCons (vV 2) vNil)))))
def w_table_of : VFT := wFn 5 v_table_of
instance : SF f_table_of w_table_of (2 ^ 86) := SF.weak (inferInstance : SF (fnOf 5 (sSeq (sOwn 2 (mApp gLst (mNil))) (sSeq (sFor (.nm 3) (mRng1 (mApp gLen (mCons (mV 0) (mNil)))) (sAppO 2 (mL gTupL (mLc (.nm 4) [4] (mRng1 (mApp gLen (mCons (mV 0) (mNil)))) (mYes) (mApp f_low (mCons (mOp gIx (mOp gIx (mV 0) (mV 4)) (mV 3)) (mCons (mOp gIx (mV 1) (mV 4)) (mNil)))))))) (sFrz 2 (sRet (mApp gTuple (mCons (mV 2) (mNil)))))))) (wFn 5 v_table_of) _) (by decide +kernel)
def v_entry_put : VS := wSeq (wAsg (.nm 4) (vOp vAdd (vOp vAdd (vSlice (vOp vIx (vV 0) (vV 1)) vPartN (vPartS (vV 2))) (vApp (vFN vTup) (vCons (vV 3) vNil))) (vSlice (vOp vIx (vV 0) (vV 1)) (vPartS (vOp vAdd (vV 2) (vC (.int 1)))) vPartN)))
    (wRet (vOp vAdd (vOp vAdd (vSlice (vV 0) vPartN (vPartS (vV 1))) (vApp (vFN vTup) (vCons (vV 4) vNil))) (vSlice (vV 0) (vPartS (vOp vAdd (vV 1) (vC (.int 1)))) vPartN)))
def w_entry_put : VFT := wFn 5 v_entry_put
instance : SF f_entry_put w_entry_put (2 ^ 0) := SF.weak (inferInstance : SF (fnOf 5 (sSeq (sAsg (.nm 4) (mOp gAdd (mOp gAdd (mSlice (mOp gIx (mV 0) (mV 1)) (none) (some (mV 2))) (mApp gTup (mCons (mV 3) (mNil)))) (mSlice (mOp gIx (mV 0) (mV 1)) (some (mOp gAdd (mV 2) (mC (.int 1)))) (none)))) (sRet (mOp gAdd (mOp gAdd (mSlice (mV 0) (none) (some (mV 1))) (mApp gTup (mCons (mV 4) (mNil)))) (mSlice (mV 0) (some (mOp gAdd (mV 1) (mC (.int 1)))) (none)))))) (wFn 5 v_entry_put) _) (by decide +kernel)
def v_spoilt : VS := wSeq (wAsg (.nm 4) (vApp (vFN vLen) (vCons (vV 3) vNil)))
    (wSeq (wAsg (.nm 5) (vApp w_drop (vCons (vV 0) (vCons (vV 4) vNil))))
    (wSeq (wAsg (.nm 6) (vApp w_drop (vCons (vV 0) (vCons (vV 4) vNil))))
    (wSeq (wAsg (.tp [.nm 7, .nm 8]) (vOp vIx (vOp vIx (vV 3) (vV 5)) (vV 6)))
    (wSeq (wAsg (.nm 9) (vOp vSub (vOp vIx (vV 2) (vV 6)) (vApp (vFN (vSq vSum)) (vCons (vOp vIx (vV 1) (vV 6)) vNil))))
    (wSeq (wAsg (.nm 10) (vApp w_low (vCons (vOp vAdd (vOp vAdd (vOp vIx (vOp vIx (vV 1) (vV 6)) (vV 5)) (vV 9)) (vC (.int 1))) (vCons (vOp vIx (vV 2) (vV 6)) vNil))))
    (wSeq (wAsg (.nm 11) (vApp (vFN vLst) (vCons (vV 10) (vCons (vV 10) (vCons (vApp (vFN vTup) (vCons (vOp vSub (vOp vSub (vC (.int 0)) (vC (.int 1))) (vV 7)) (vCons (vV 8) vNil))) (vCons (vApp (vFN vTup) (vCons (vOp vMul (vC (.int 2)) (vV 7)) (vCons (vOp vMul (vC (.int 2)) (vV 8)) vNil))) (vCons (vC (.bl true)) (vCons (vC (.int 0)) (vCons (vC .non) (vCons (vApp (vFN vLst) (vCons (vV 7) (vCons (vV 8) vNil))) (vCons (vApp (vFN vTup) (vCons (vV 7) vNil)) vNil)))))))))))
    (wSeq (wAsg (.nm 12) (vApp w_drop (vCons (vV 0) (vCons (vOp vAdd (vApp (vFN vLen) (vCons (vV 11) vNil)) (vC (.int 9))) vNil))))
    (wSeq (wIf (vTst (vOp vLt (vV 12) (vApp (vFN vLen) (vCons (vV 11) vNil)))) (wRet (vApp w_entry_put (vCons (vV 3) (vCons (vV 5) (vCons (vV 6) (vCons (vOp vIx (vV 11) (vV 12)) vNil)))))) wPass)
    (wSeq (wAsg (.nm 13) (vOp vAdd (vOp vAdd (vSlice (vV 3) vPartN (vPartS (vV 5))) (vApp (vFN vTup) (vCons (vOp vAdd (vSlice (vOp vIx (vV 3) (vV 5)) vPartN (vPartS (vV 6))) (vSlice (vOp vIx (vV 3) (vV 5)) (vPartS (vOp vAdd (vV 6) (vC (.int 1)))) vPartN)) vNil))) (vSlice (vV 3) (vPartS (vOp vAdd (vV 5) (vC (.int 1)))) vPartN)))
    (wSeq (wAsg (.nm 14) (vOp vAdd (vOp vAdd (vSlice (vV 3) vPartN (vPartS (vV 5))) (vApp (vFN vTup) (vCons (vApp (vFN vList) (vCons (vOp vIx (vV 3) (vV 5)) vNil)) vNil))) (vSlice (vV 3) (vPartS (vOp vAdd (vV 5) (vC (.int 1)))) vPartN)))
    (wSeq (wAsg (.nm 15) (vApp (vFN vLst) (vCons (vApp (vFN vList) (vCons (vV 3) vNil)) (vCons (vOp vAdd (vSlice (vV 3) vPartN (vPartS (vV 5))) (vSlice (vV 3) (vPartS (vOp vAdd (vV 5) (vC (.int 1)))) vPartN)) (vCons (vOp vAdd (vV 3) (vApp (vFN vTup) (vCons (vOp vIx (vV 3) (vV 5)) vNil))) (vCons (vV 13) (vCons (vV 14) (vCons (vC .non) (vCons (vApp (vFN vTup) vNil) (vCons (vOp vIx (vOp vIx (vV 3) (vV 5)) (vV 6)) (vCons (vC (.str "1")) vNil)))))))))))
    (wSeq (wAsg (.nm 15) (vOp vAdd (vV 15) (vApp (vFN vLst) (vCons (vApp w_table_of (vCons (vBox (vLc (.nm 17) [17] (vRng1 (vC (.int 9))) vYes (vBox (vLc (.nm 16) [16] (vRng1 (vC (.int 9))) vYes (vApp (vFN vInt) (vCons (vOp vEq (vV 16) (vV 17)) vNil)))))) (vCons (vOp vMul (vApp (vFN vLst) (vCons (vC (.int 1)) vNil)) (vC (.int 9))) vNil))) (vCons (vOp vMul (vApp (vFN vTup) (vCons (vOp vMul (vApp (vFN vTup) (vCons (vApp (vFN vTup) (vCons (vC (.int 0)) (vCons (vC (.int 1)) vNil))) vNil)) (vC (.int 9))) vNil)) (vC (.int 9))) vNil)))))
    (wRet (vOp vIx (vV 15) (vApp w_drop (vCons (vV 0) (vCons (vApp (vFN vLen) (vCons (vV 15) vNil)) vNil)))))))))))))))))
def w_spoilt : VFT := wFn 18 v_spoilt
instance : SF f_spoilt w_spoilt (2 ^ 87) := SF.weak (inferInstance : SF (fnOf 18 (sSeq (sAsg (.nm 4) (mApp gLen (mCons (mV 3) (mNil)))) (sSeq (sAsg (.nm 5) (mApp f_drop (mCons (mV 0) (mCons (mV 4) (mNil))))) (sSeq (sAsg (.nm 6) (mApp f_drop (mCons (mV 0) (mCons (mV 4) (mNil))))) (sSeq (sAsg (.tp [.nm 7, .nm 8]) (mOp gIx (mOp gIx (mV 3) (mV 5)) (mV 6))) (sSeq (sAsg (.nm 9) (mOp gSub (mOp gIx (mV 2) (mV 6)) (mApp (gSq gSum) (mCons (mOp gIx (mV 1) (mV 6)) (mNil))))) (sSeq (sAsg (.nm 10) (mApp f_low (mCons (mOp gAdd (mOp gAdd (mOp gIx (mOp gIx (mV 1) (mV 6)) (mV 5)) (mV 9)) (mC (.int 1))) (mCons (mOp gIx (mV 2) (mV 6)) (mNil))))) (sSeq (sAsg (.nm 11) (mApp gLst (mCons (mV 10) (mCons (mV 10) (mCons (mApp gTup (mCons (mOp gSub (mOp gSub (mC (.int 0)) (mC (.int 1))) (mV 7)) (mCons (mV 8) (mNil)))) (mCons (mApp gTup (mCons (mOp gMul (mC (.int 2)) (mV 7)) (mCons (mOp gMul (mC (.int 2)) (mV 8)) (mNil)))) (mCons (mC (.bl true)) (mCons (mC (.int 0)) (mCons (mC .non) (mCons (mApp gLst (mCons (mV 7) (mCons (mV 8) (mNil)))) (mCons (mApp gTup (mCons (mV 7) (mNil))) (mNil)))))))))))) (sSeq (sAsg (.nm 12) (mApp f_drop (mCons (mV 0) (mCons (mOp gAdd (mApp gLen (mCons (mV 11) (mNil))) (mC (.int 9))) (mNil))))) (sSeq (sIf (mTst (mOp gLt (mV 12) (mApp gLen (mCons (mV 11) (mNil))))) (sRet (mApp f_entry_put (mCons (mV 3) (mCons (mV 5) (mCons (mV 6) (mCons (mOp gIx (mV 11) (mV 12)) (mNil))))))) (sPass)) (sSeq (sAsg (.nm 13) (mOp gAdd (mOp gAdd (mSlice (mV 3) (none) (some (mV 5))) (mApp gTup (mCons (mOp gAdd (mSlice (mOp gIx (mV 3) (mV 5)) (none) (some (mV 6))) (mSlice (mOp gIx (mV 3) (mV 5)) (some (mOp gAdd (mV 6) (mC (.int 1)))) (none))) (mNil)))) (mSlice (mV 3) (some (mOp gAdd (mV 5) (mC (.int 1)))) (none)))) (sSeq (sAsg (.nm 14) (mOp gAdd (mOp gAdd (mSlice (mV 3) (none) (some (mV 5))) (mApp gTup (mCons (mApp gList (mCons (mOp gIx (mV 3) (mV 5)) (mNil))) (mNil)))) (mSlice (mV 3) (some (mOp gAdd (mV 5) (mC (.int 1)))) (none)))) (sSeq (sAsg (.nm 15) (mApp gLst (mCons (mApp gList (mCons (mV 3) (mNil))) (mCons (mOp gAdd (mSlice (mV 3) (none) (some (mV 5))) (mSlice (mV 3) (some (mOp gAdd (mV 5) (mC (.int 1)))) (none))) (mCons (mOp gAdd (mV 3) (mApp gTup (mCons (mOp gIx (mV 3) (mV 5)) (mNil)))) (mCons (mV 13) (mCons (mV 14) (mCons (mC .non) (mCons (mApp gTup (mNil)) (mCons (mOp gIx (mOp gIx (mV 3) (mV 5)) (mV 6)) (mCons (mC (.str "1")) (mNil)))))))))))) (sSeq (sAsg (.nm 15) (mOp gAdd (mV 15) (mApp gLst (mCons (mApp f_table_of (mCons (mBox (mLc (.nm 17) [17] (mRng1 (mC (.int 9))) (mYes) (mBox (mLc (.nm 16) [16] (mRng1 (mC (.int 9))) (mYes) (mApp gInt (mCons (mOp gEq (mV 16) (mV 17)) (mNil))))))) (mCons (mOp gMul (mApp gLst (mCons (mC (.int 1)) (mNil))) (mC (.int 9))) (mNil)))) (mCons (mOp gMul (mApp gTup (mCons (mOp gMul (mApp gTup (mCons (mApp gTup (mCons (mC (.int 0)) (mCons (mC (.int 1)) (mNil)))) (mNil))) (mC (.int 9))) (mNil))) (mC (.int 9))) (mNil)))))) (sRet (mOp gIx (mV 15) (mApp f_drop (mCons (mV 0) (mCons (mApp gLen (mCons (mV 15) (mNil))) (mNil)))))))))))))))))))) (wFn 18 v_spoilt) _) (by decide +kernel)
def v_is_integer : VS := wRet (vAndV (vUn (vIsTy "int") (vV 0)) (vNotV (vUn (vIsTy "bool") (vV 0))))
def w_is_integer : VFT := wFn 1 v_is_integer
instance : SF f_is_integer w_is_integer (2 ^ 0) := SF.weak (inferInstance : SF (fnOf 1 (sRet (mAndV (mUn (gIsTy "int") (mV 0)) (mNotV (mUn (gIsTy "bool") (mV 0)))))) (wFn 1 v_is_integer) _) (by decide +kernel)
def v_is_fraction : VS := wSeq (wIf (vOr (vNot (vTru (vUn (vIsTy "tuple") (vV 0)))) (vTst (vOp vNe (vApp (vFN vLen) (vCons (vV 0) vNil)) (vC (.int 2))))) (wRet (vC (.bl false))) wPass)
    (wSeq (wIf (vOr (vNot (vTru (vApp w_is_integer (vCons (vOp vIx (vV 0) (vC (.int 0))) vNil)))) (vNot (vTru (vApp w_is_integer (vCons (vOp vIx (vV 0) (vC (.int 1))) vNil))))) (wRet (vC (.bl false))) wPass)
    (wRet (vAndV (vOp vGe (vOp vIx (vV 0) (vC (.int 1))) (vC (.int 1))) (vOp vEq (vApp (vFN vGcd) (vCons (vOp vIx (vV 0) (vC (.int 0))) (vCons (vOp vIx (vV 0) (vC (.int 1))) vNil))) (vC (.int 1))))))
def w_is_fraction : VFT := wFn 1 v_is_fraction
instance : SF f_is_fraction w_is_fraction (2 ^ 2) := SF.weak (inferInstance : SF (fnOf 1 (sSeq (sIf (mOr (mNot (mTru (mUn (gIsTy "tuple") (mV 0)))) (mTst (mOp gNe (mApp gLen (mCons (mV 0) (mNil))) (mC (.int 2))))) (sRet (mC (.bl false))) (sPass)) (sSeq (sIf (mOr (mNot (mTru (mApp f_is_integer (mCons (mOp gIx (mV 0) (mC (.int 0))) (mNil))))) (mNot (mTru (mApp f_is_integer (mCons (mOp gIx (mV 0) (mC (.int 1))) (mNil)))))) (sRet (mC (.bl false))) (sPass)) (sRet (mAndV (mOp gGe (mOp gIx (mV 0) (mC (.int 1))) (mC (.int 1))) (mOp gEq (mApp gGcd (mCons (mOp gIx (mV 0) (mC (.int 0))) (mCons (mOp gIx (mV 0) (mC (.int 1))) (mNil)))) (mC (.int 1)))))))) (wFn 1 v_is_fraction) _) (by decide +kernel)
def v_is_from_zero : VS := wRet (vAndV (vApp w_is_fraction (vCons (vV 0) vNil)) (vOp vGe (vOp vIx (vV 0) (vC (.int 0))) (vC (.int 0))))
def w_is_from_zero : VFT := wFn 1 v_is_from_zero
instance : SF f_is_from_zero w_is_from_zero (2 ^ 3) := SF.weak (inferInstance : SF (fnOf 1 (sRet (mAndV (mApp f_is_fraction (mCons (mV 0) (mNil))) (mOp gGe (mOp gIx (mV 0) (mC (.int 0))) (mC (.int 0)))))) (wFn 1 v_is_from_zero) _) (by decide +kernel)
def v_is_share : VS := wRet (vAndV (vApp w_is_from_zero (vCons (vV 0) vNil)) (vOp vLe (vOp vIx (vV 0) (vC (.int 0))) (vOp vIx (vV 0) (vC (.int 1)))))
def w_is_share : VFT := wFn 1 v_is_share
instance : SF f_is_share w_is_share (2 ^ 4) := SF.weak (inferInstance : SF (fnOf 1 (sRet (mAndV (mApp f_is_from_zero (mCons (mV 0) (mNil))) (mOp gLe (mOp gIx (mV 0) (mC (.int 0))) (mOp gIx (mV 0) (mC (.int 1))))))) (wFn 1 v_is_share) _) (by decide +kernel)
def v_is_table_row : VS := wRet (vAndV (vUn (vIsTy "tuple") (vV 0)) (vAndV (vOp vEq (vApp (vFN vLen) (vCons (vV 0) vNil)) (vV 1)) (vL vAll (vLc (.nm 2) [2] (vSrc (vV 0)) vYes (vApp w_is_from_zero (vCons (vV 2) vNil))))))
def w_is_table_row : VFT := wFn 3 v_is_table_row
instance : SF f_is_table_row w_is_table_row (2 ^ 27) := SF.weak (inferInstance : SF (fnOf 3 (sRet (mAndV (mUn (gIsTy "tuple") (mV 0)) (mAndV (mOp gEq (mApp gLen (mCons (mV 0) (mNil))) (mV 1)) (mL gAll (mLc (.nm 2) [2] (mSrc (mV 0)) (mYes) (mApp f_is_from_zero (mCons (mV 2) (mNil))))))))) (wFn 3 v_is_table_row) _) (by decide +kernel)
def v_reduced : VS := wSeq (wAsg (.nm 2) (vApp (vFN vGcd) (vCons (vV 0) (vCons (vV 1) vNil))))
    (wSeq (wIf (vTst (vOp vLt (vV 1) (vC (.int 0)))) (wAsg (.nm 2) (vUn vNeg (vV 2))) wPass)
    (wRet (vApp (vFN vTup) (vCons (vOp vDiv (vV 0) (vV 2)) (vCons (vOp vDiv (vV 1) (vV 2)) vNil)))))
def w_reduced : VFT := wFn 3 v_reduced
instance : SF f_reduced w_reduced (2 ^ 0) := SF.weak (inferInstance : SF (fnOf 3 (sSeq (sAsg (.nm 2) (mApp gGcd (mCons (mV 0) (mCons (mV 1) (mNil))))) (sSeq (sIf (mTst (mOp gLt (mV 1) (mC (.int 0)))) (sAsg (.nm 2) (mUn gNeg (mV 2))) (sPass)) (sRet (mApp gTup (mCons (mOp gDiv (mV 0) (mV 2)) (mCons (mOp gDiv (mV 1) (mV 2)) (mNil)))))))) (wFn 3 v_reduced) _) (by decide +kernel)
def v_added : VS := wRet (vApp w_reduced (vCons (vOp vAdd (vOp vMul (vOp vIx (vV 0) (vC (.int 0))) (vOp vIx (vV 1) (vC (.int 1)))) (vOp vMul (vOp vIx (vV 1) (vC (.int 0))) (vOp vIx (vV 0) (vC (.int 1))))) (vCons (vOp vMul (vOp vIx (vV 0) (vC (.int 1))) (vOp vIx (vV 1) (vC (.int 1)))) vNil)))
def w_added : VFT := wFn 2 v_added
instance : SF f_added w_added (2 ^ 1) := SF.weak (inferInstance : SF (fnOf 2 (sRet (mApp f_reduced (mCons (mOp gAdd (mOp gMul (mOp gIx (mV 0) (mC (.int 0))) (mOp gIx (mV 1) (mC (.int 1)))) (mOp gMul (mOp gIx (mV 1) (mC (.int 0))) (mOp gIx (mV 0) (mC (.int 1))))) (mCons (mOp gMul (mOp gIx (mV 0) (mC (.int 1))) (mOp gIx (mV 1) (mC (.int 1)))) (mNil)))))) (wFn 2 v_added) _) (by decide +kernel)
def v_total : VS := wSeq (wAsg (.nm 1) (vC (.tup u_ZERO)))
    (wSeq (wFor (.nm 2) (vSrc (vV 0)) (wAsg (.nm 1) (vApp w_added (vCons (vV 1) (vCons (vV 2) vNil)))))
    (wRet (vV 1)))
def w_total : VFT := wFn 3 v_total
instance : SF f_total w_total (2 ^ 64) := SF.weak (inferInstance : SF (fnOf 3 (sSeq (sAsg (.nm 1) (mC (.tup d_ZERO))) (sSeq (sFor (.nm 2) (mSrc (mV 0)) (sAsg (.nm 1) (mApp f_added (mCons (mV 1) (mCons (mV 2) (mNil)))))) (sRet (mV 1))))) (wFn 3 v_total) _) (by decide +kernel)
def v_column_sums : VS := wRet (vBox (vLc (.nm 2) [2] (vRng1 (vApp (vFN vLen) (vCons (vV 0) vNil))) vYes (vApp w_total (vCons (vBox (vLc (.nm 1) [1] (vSrc (vV 0)) vYes (vOp vIx (vV 1) (vV 2)))) vNil))))
def w_column_sums : VFT := wFn 3 v_column_sums
instance : SF f_column_sums w_column_sums (2 ^ 88) := SF.weak (inferInstance : SF (fnOf 3 (sRet (mBox (mLc (.nm 2) [2] (mRng1 (mApp gLen (mCons (mV 0) (mNil)))) (mYes) (mApp f_total (mCons (mBox (mLc (.nm 1) [1] (mSrc (mV 0)) (mYes) (mOp gIx (mV 1) (mV 2)))) (mNil))))))) (wFn 3 v_column_sums) _) (by decide +kernel)
def v_is_table : VS := wSeq (wIf (vOr (vNot (vTru (vUn (vIsTy "tuple") (vV 0)))) (vNot (vTst (vChain vLe vLe (vC (.int 1)) (vApp (vFN vLen) (vCons (vV 0) vNil)) (vC (.int 8)))))) (wRet (vC (.bl false))) wPass)
    (wSeq (wIf (vNot (vTru (vL vAll (vLc (.nm 1) [1] (vSrc (vV 0)) vYes (vApp w_is_table_row (vCons (vV 1) (vCons (vApp (vFN vLen) (vCons (vV 0) vNil)) vNil))))))) (wRet (vC (.bl false))) wPass)
    (wRet (vL vAll (vLc (.nm 2) [2] (vSrc (vApp w_column_sums (vCons (vV 0) vNil))) vYes (vApp w_is_share (vCons (vV 2) vNil))))))
def w_is_table : VFT := wFn 3 v_is_table
instance : SF f_is_table w_is_table (2 ^ 89) := SF.weak (inferInstance : SF (fnOf 3 (sSeq (sIf (mOr (mNot (mTru (mUn (gIsTy "tuple") (mV 0)))) (mNot (mTst (mChain gLe gLe (mC (.int 1)) (mApp gLen (mCons (mV 0) (mNil))) (mC (.int 8)))))) (sRet (mC (.bl false))) (sPass)) (sSeq (sIf (mNot (mTru (mL gAll (mLc (.nm 1) [1] (mSrc (mV 0)) (mYes) (mApp f_is_table_row (mCons (mV 1) (mCons (mApp gLen (mCons (mV 0) (mNil))) (mNil)))))))) (sRet (mC (.bl false))) (sPass)) (sRet (mL gAll (mLc (.nm 2) [2] (mSrc (mApp f_column_sums (mCons (mV 0) (mNil)))) (mYes) (mApp f_is_share (mCons (mV 2) (mNil))))))))) (wFn 3 v_is_table) _) (by decide +kernel)
def v_built_anew (rec : VFT) : VS := wSeq (wIf (vTru (vUn (vIsTy "list") (vV 0))) (wRet (vBox (vLc (.nm 1) [1] (vSrc (vV 0)) vYes (vApp rec (vCons (vV 1) vNil))))) wPass)
    (wSeq (wIf (vTru (vUn (vIsTy "tuple") (vV 0))) (wRet (vL vTupL (vLc (.nm 1) [1] (vSrc (vV 0)) vYes (vApp rec (vCons (vV 1) vNil))))) wPass)
    (wRet (vV 0)))
def w_built_anew : Nat → VFT
  | 0 => fun _ _ _ => False
  | n + 1 => wFn 2 (v_built_anew (w_built_anew n))
instance : SF (f_built_anew 0) (w_built_anew 0) 0 := SF.zero
instance : SF (f_built_anew 1) (w_built_anew 1) (2 ^ 0) := SF.weak (inferInstance : SF (fnOf 2 (sSeq (sIf (mTru (mUn (gIsTy "list") (mV 0))) (sRet (mBox (mLc (.nm 1) [1] (mSrc (mV 0)) (mYes) (mApp (f_built_anew 0) (mCons (mV 1) (mNil)))))) (sPass)) (sSeq (sIf (mTru (mUn (gIsTy "tuple") (mV 0))) (sRet (mL gTupL (mLc (.nm 1) [1] (mSrc (mV 0)) (mYes) (mApp (f_built_anew 0) (mCons (mV 1) (mNil)))))) (sPass)) (sRet (mV 0))))) (wFn 2 (v_built_anew (w_built_anew 0))) _) (by decide +kernel)
instance : SF (f_built_anew 2) (w_built_anew 2) (2 ^ 25) := SF.weak (inferInstance : SF (fnOf 2 (sSeq (sIf (mTru (mUn (gIsTy "list") (mV 0))) (sRet (mBox (mLc (.nm 1) [1] (mSrc (mV 0)) (mYes) (mApp (f_built_anew 1) (mCons (mV 1) (mNil)))))) (sPass)) (sSeq (sIf (mTru (mUn (gIsTy "tuple") (mV 0))) (sRet (mL gTupL (mLc (.nm 1) [1] (mSrc (mV 0)) (mYes) (mApp (f_built_anew 1) (mCons (mV 1) (mNil)))))) (sPass)) (sRet (mV 0))))) (wFn 2 (v_built_anew (w_built_anew 1))) _) (by decide +kernel)
instance : SF (f_built_anew 3) (w_built_anew 3) (2 ^ 50) := SF.weak (inferInstance : SF (fnOf 2 (sSeq (sIf (mTru (mUn (gIsTy "list") (mV 0))) (sRet (mBox (mLc (.nm 1) [1] (mSrc (mV 0)) (mYes) (mApp (f_built_anew 2) (mCons (mV 1) (mNil)))))) (sPass)) (sSeq (sIf (mTru (mUn (gIsTy "tuple") (mV 0))) (sRet (mL gTupL (mLc (.nm 1) [1] (mSrc (mV 0)) (mYes) (mApp (f_built_anew 2) (mCons (mV 1) (mNil)))))) (sPass)) (sRet (mV 0))))) (wFn 2 (v_built_anew (w_built_anew 2))) _) (by decide +kernel)
instance : SF (f_built_anew 4) (w_built_anew 4) (2 ^ 75) := SF.weak (inferInstance : SF (fnOf 2 (sSeq (sIf (mTru (mUn (gIsTy "list") (mV 0))) (sRet (mBox (mLc (.nm 1) [1] (mSrc (mV 0)) (mYes) (mApp (f_built_anew 3) (mCons (mV 1) (mNil)))))) (sPass)) (sSeq (sIf (mTru (mUn (gIsTy "tuple") (mV 0))) (sRet (mL gTupL (mLc (.nm 1) [1] (mSrc (mV 0)) (mYes) (mApp (f_built_anew 3) (mCons (mV 1) (mNil)))))) (sPass)) (sRet (mV 0))))) (wFn 2 (v_built_anew (w_built_anew 3))) _) (by decide +kernel)
instance : SF (f_built_anew 5) (w_built_anew 5) (2 ^ 100) := SF.weak (inferInstance : SF (fnOf 2 (sSeq (sIf (mTru (mUn (gIsTy "list") (mV 0))) (sRet (mBox (mLc (.nm 1) [1] (mSrc (mV 0)) (mYes) (mApp (f_built_anew 4) (mCons (mV 1) (mNil)))))) (sPass)) (sSeq (sIf (mTru (mUn (gIsTy "tuple") (mV 0))) (sRet (mL gTupL (mLc (.nm 1) [1] (mSrc (mV 0)) (mYes) (mApp (f_built_anew 4) (mCons (mV 1) (mNil)))))) (sPass)) (sRet (mV 0))))) (wFn 2 (v_built_anew (w_built_anew 4))) _) (by decide +kernel)
instance : SF (f_built_anew 6) (w_built_anew 6) (2 ^ 125) := SF.weak (inferInstance : SF (fnOf 2 (sSeq (sIf (mTru (mUn (gIsTy "list") (mV 0))) (sRet (mBox (mLc (.nm 1) [1] (mSrc (mV 0)) (mYes) (mApp (f_built_anew 5) (mCons (mV 1) (mNil)))))) (sPass)) (sSeq (sIf (mTru (mUn (gIsTy "tuple") (mV 0))) (sRet (mL gTupL (mLc (.nm 1) [1] (mSrc (mV 0)) (mYes) (mApp (f_built_anew 5) (mCons (mV 1) (mNil)))))) (sPass)) (sRet (mV 0))))) (wFn 2 (v_built_anew (w_built_anew 5))) _) (by decide +kernel)
instance : SF (f_built_anew 7) (w_built_anew 7) (2 ^ 150) := SF.weak (inferInstance : SF (fnOf 2 (sSeq (sIf (mTru (mUn (gIsTy "list") (mV 0))) (sRet (mBox (mLc (.nm 1) [1] (mSrc (mV 0)) (mYes) (mApp (f_built_anew 6) (mCons (mV 1) (mNil)))))) (sPass)) (sSeq (sIf (mTru (mUn (gIsTy "tuple") (mV 0))) (sRet (mL gTupL (mLc (.nm 1) [1] (mSrc (mV 0)) (mYes) (mApp (f_built_anew 6) (mCons (mV 1) (mNil)))))) (sPass)) (sRet (mV 0))))) (wFn 2 (v_built_anew (w_built_anew 6))) _) (by decide +kernel)
instance : SF (f_built_anew 8) (w_built_anew 8) (2 ^ 175) := SF.weak (inferInstance : SF (fnOf 2 (sSeq (sIf (mTru (mUn (gIsTy "list") (mV 0))) (sRet (mBox (mLc (.nm 1) [1] (mSrc (mV 0)) (mYes) (mApp (f_built_anew 7) (mCons (mV 1) (mNil)))))) (sPass)) (sSeq (sIf (mTru (mUn (gIsTy "tuple") (mV 0))) (sRet (mL gTupL (mLc (.nm 1) [1] (mSrc (mV 0)) (mYes) (mApp (f_built_anew 7) (mCons (mV 1) (mNil)))))) (sPass)) (sRet (mV 0))))) (wFn 2 (v_built_anew (w_built_anew 7))) _) (by decide +kernel)
def v_check_table : VS := wIf (vNot (vTru (vApp w_is_table (vCons (vV 0) vNil)))) (wRaise "InvalidTable" (vApp (w_built_anew 8) (vCons (vV 0) vNil))) wPass
def w_check_table : VFT := wFn 1 v_check_table
instance : SF f_check_table w_check_table (2 ^ 176) := SF.weak (inferInstance : SF (fnOf 1 (sIf (mNot (mTru (mApp f_is_table (mCons (mV 0) (mNil))))) (sRaise "InvalidTable" (mApp (f_built_anew 8) (mCons (mV 0) (mNil)))) (sPass))) (wFn 1 v_check_table) _) (by decide +kernel)
def v_rows_of : VS := wSeq (wAsg (.tp [.nm 1, .nm 2]) (vV 0))
    (wRet (vL vTupL (vLc (.nm 4) [4] (vSrc (vV 1)) vYes (vL vTupL (vLc (.nm 3) [3] (vSrc (vV 4)) vYes (vApp w_reduced (vCons (vV 3) (vCons (vV 2) vNil))))))))
def w_rows_of : VFT := wFn 5 v_rows_of
instance : SF f_rows_of w_rows_of (2 ^ 48) := SF.weak (inferInstance : SF (fnOf 5 (sSeq (sAsg (.tp [.nm 1, .nm 2]) (mV 0)) (sRet (mL gTupL (mLc (.nm 4) [4] (mSrc (mV 1)) (mYes) (mL gTupL (mLc (.nm 3) [3] (mSrc (mV 4)) (mYes) (mApp f_reduced (mCons (mV 3) (mCons (mV 2) (mNil))))))))))) (wFn 5 v_rows_of) _) (by decide +kernel)
def v_product_of : VS := wSeq (wAsg (.nm 2) (vBox (vLc (.nm 4) [4] (vRng1 (vApp (vFN vLen) (vCons (vOp vIx (vOp vIx (vV 1) (vC (.int 0))) (vC (.int 0))) vNil))) vYes (vBox (vLc (.nm 3) [3] (vSrc (vOp vIx (vV 1) (vC (.int 0)))) vYes (vOp vIx (vV 3) (vV 4)))))))
    (wSeq (wAsg (.nm 5) (vBox (vLc (.nm 3) [3] (vSrc (vOp vIx (vV 0) (vC (.int 0)))) vYes (vBox (vLc (.nm 8) [8] (vSrc (vV 2)) vYes (vL vSum (vLc (.tp [.nm 6, .nm 7]) [6, 7] (vZip (vV 3) (vV 8)) vYes (vOp vMul (vV 6) (vV 7)))))))))
    (wRet (vApp (vFN vTup) (vCons (vV 5) (vCons (vOp vMul (vOp vIx (vV 0) (vC (.int 1))) (vOp vIx (vV 1) (vC (.int 1)))) vNil)))))
def w_product_of : VFT := wFn 9 v_product_of
instance : SF f_product_of w_product_of (2 ^ 0) := SF.weak (inferInstance : SF (fnOf 9 (sSeq (sAsg (.nm 2) (mBox (mLc (.nm 4) [4] (mRng1 (mApp gLen (mCons (mOp gIx (mOp gIx (mV 1) (mC (.int 0))) (mC (.int 0))) (mNil)))) (mYes) (mBox (mLc (.nm 3) [3] (mSrc (mOp gIx (mV 1) (mC (.int 0)))) (mYes) (mOp gIx (mV 3) (mV 4))))))) (sSeq (sAsg (.nm 5) (mBox (mLc (.nm 3) [3] (mSrc (mOp gIx (mV 0) (mC (.int 0)))) (mYes) (mBox (mLc (.nm 8) [8] (mSrc (mV 2)) (mYes) (mL gSum (mLc (.tp [.nm 6, .nm 7]) [6, 7] (mZip (mV 3) (mV 8)) (mYes) (mOp gMul (mV 6) (mV 7))))))))) (sRet (mApp gTup (mCons (mV 5) (mCons (mOp gMul (mOp gIx (mV 0) (mC (.int 1))) (mOp gIx (mV 1) (mC (.int 1)))) (mNil)))))))) (wFn 9 v_product_of) _) (by decide +kernel)
def v_common : VS := wSeq (wAsg (.nm 1) (vC (.int 1)))
    (wSeq (wFor (.nm 2) (vSrc (vV 0)) (wAsg (.nm 1) (vApp (vFN vLcm) (vCons (vV 1) (vCons (vOp vIx (vV 2) (vC (.int 1))) vNil)))))
    (wRet (vApp (vFN vTup) (vCons (vBox (vLc (.nm 2) [2] (vSrc (vV 0)) vYes (vOp vMul (vOp vIx (vV 2) (vC (.int 0))) (vOp vDiv (vV 1) (vOp vIx (vV 2) (vC (.int 1))))))) (vCons (vV 1) vNil)))))
def w_common : VFT := wFn 3 v_common
instance : SF f_common w_common (2 ^ 0) := SF.weak (inferInstance : SF (fnOf 3 (sSeq (sAsg (.nm 1) (mC (.int 1))) (sSeq (sFor (.nm 2) (mSrc (mV 0)) (sAsg (.nm 1) (mApp gLcm (mCons (mV 1) (mCons (mOp gIx (mV 2) (mC (.int 1))) (mNil)))))) (sRet (mApp gTup (mCons (mBox (mLc (.nm 2) [2] (mSrc (mV 0)) (mYes) (mOp gMul (mOp gIx (mV 2) (mC (.int 0))) (mOp gDiv (mV 1) (mOp gIx (mV 2) (mC (.int 1))))))) (mCons (mV 1) (mNil)))))))) (wFn 3 v_common) _) (by decide +kernel)
def v_grid_of : VS := wSeq (wAsg (.nm 1) (vApp (vFN vLen) (vCons (vOp vIx (vV 0) (vC (.int 0))) vNil)))
    (wSeq (wAsg (.tp [.nm 2, .nm 3]) (vApp w_common (vCons (vBox (vLc2 (.nm 4) [4, 5] (vSrc (vV 0)) vYes (.nm 5) [5] (vSrc (vV 4)) vYes (vV 5))) vNil)))
    (wRet (vApp (vFN vTup) (vCons (vBox (vLc (.nm 6) [6] (vRng3 (vC (.int 0)) (vApp (vFN vLen) (vCons (vV 2) vNil)) (vV 1)) vYes (vSlice (vV 2) (vPartS (vV 6)) (vPartS (vOp vAdd (vV 6) (vV 1)))))) (vCons (vV 3) vNil)))))
def w_grid_of : VFT := wFn 7 v_grid_of
instance : SF f_grid_of w_grid_of (2 ^ 1) := SF.weak (inferInstance : SF (fnOf 7 (sSeq (sAsg (.nm 1) (mApp gLen (mCons (mOp gIx (mV 0) (mC (.int 0))) (mNil)))) (sSeq (sAsg (.tp [.nm 2, .nm 3]) (mApp f_common (mCons (mBox (mLc2 (.nm 4) [4, 5] (mSrc (mV 0)) (mYes) (.nm 5) [5] (mSrc (mV 4)) (mYes) (mV 5))) (mNil)))) (sRet (mApp gTup (mCons (mBox (mLc (.nm 6) [6] (mRng3 (mC (.int 0)) (mApp gLen (mCons (mV 2) (mNil))) (mV 1)) (mYes) (mSlice (mV 2) (some (mV 6)) (some (mOp gAdd (mV 6) (mV 1)))))) (mCons (mV 3) (mNil)))))))) (wFn 7 v_grid_of) _) (by decide +kernel)
def v_behind : VS := wSeq (wExpr (vApp w_check_table (vCons (vV 0) vNil)))
    (wSeq (wExpr (vApp w_check_table (vCons (vV 1) vNil)))
    (wSeq (wIf (vTst (vOp vNe (vApp (vFN vLen) (vCons (vV 0) vNil)) (vApp (vFN vLen) (vCons (vV 1) vNil)))) (wRaise "Unlike" (vApp (vFN vLen) (vCons (vV 1) vNil))) wPass)
    (wRet (vApp w_rows_of (vCons (vApp w_product_of (vCons (vApp w_grid_of (vCons (vV 1) vNil)) (vCons (vApp w_grid_of (vCons (vV 0) vNil)) vNil))) vNil)))))
def w_behind : VFT := wFn 2 v_behind
instance : SF f_behind w_behind (2 ^ 178) := SF.weak (inferInstance : SF (fnOf 2 (sSeq (sExpr (mApp f_check_table (mCons (mV 0) (mNil)))) (sSeq (sExpr (mApp f_check_table (mCons (mV 1) (mNil)))) (sSeq (sIf (mTst (mOp gNe (mApp gLen (mCons (mV 0) (mNil))) (mApp gLen (mCons (mV 1) (mNil))))) (sRaise "Unlike" (mApp gLen (mCons (mV 1) (mNil)))) (sPass)) (sRet (mApp f_rows_of (mCons (mApp f_product_of (mCons (mApp f_grid_of (mCons (mV 1) (mNil))) (mCons (mApp f_grid_of (mCons (mV 0) (mNil))) (mNil)))) (mNil)))))))) (wFn 2 v_behind) _) (by decide +kernel)
def v_check_rounds : VS := wIf (vTst (vOp vLt (vV 0) (vC (.int 0)))) (wRaise "InvalidNumber" (vV 0)) wPass
def w_check_rounds : VFT := wFn 1 v_check_rounds
instance : SF f_check_rounds w_check_rounds (2 ^ 0) := SF.weak (inferInstance : SF (fnOf 1 (sIf (mTst (mOp gLt (mV 0) (mC (.int 0)))) (sRaise "InvalidNumber" (mV 0)) (sPass))) (wFn 1 v_check_rounds) _) (by decide +kernel)
def v_still_grid : VS := wRet (vApp (vFN vTup) (vCons (vBox (vLc (.nm 2) [2] (vRng1 (vV 0)) vYes (vBox (vLc (.nm 1) [1] (vRng1 (vV 0)) vYes (vIf (vTst (vOp vEq (vV 2) (vV 1))) (vC (.int 1)) (vC (.int 0))))))) (vCons (vC (.int 1)) vNil)))
def w_still_grid : VFT := wFn 3 v_still_grid
instance : SF f_still_grid w_still_grid (2 ^ 0) := SF.weak (inferInstance : SF (fnOf 3 (sRet (mApp gTup (mCons (mBox (mLc (.nm 2) [2] (mRng1 (mV 0)) (mYes) (mBox (mLc (.nm 1) [1] (mRng1 (mV 0)) (mYes) (mIf (mTst (mOp gEq (mV 2) (mV 1))) (mC (.int 1)) (mC (.int 0))))))) (mCons (mC (.int 1)) (mNil)))))) (wFn 3 v_still_grid) _) (by decide +kernel)
def v_power_of : VS := wSeq (wPar3 2 3 4 (vApp w_still_grid (vCons (vApp (vFN vLen) (vCons (vOp vIx (vV 0) (vC (.int 0))) vNil)) vNil)) (vV 0) (vV 1))
    (wSeq (wWh (vTst (vOp vGt (vV 4) (vC (.int 0)))) (wSeq (wIf (vTst (vOp vEq (vOp vMod (vV 4) (vC (.int 2))) (vC (.int 1)))) (wAsg (.nm 2) (vApp w_product_of (vCons (vV 3) (vCons (vV 2) vNil)))) wPass)
    (wSeq (wAsg (.nm 4) (vOp vDiv (vV 4) (vC (.int 2))))
    (wIf (vTst (vOp vGt (vV 4) (vC (.int 0)))) (wAsg (.nm 3) (vApp w_product_of (vCons (vV 3) (vCons (vV 3) vNil)))) wPass))) 4000)
    (wRet (vV 2)))
def w_power_of : VFT := wFn 5 v_power_of
instance : SF f_power_of w_power_of (2 ^ 13) := SF.weak (inferInstance : SF (fnOf 5 (sSeq (sPar3 2 3 4 (mApp f_still_grid (mCons (mApp gLen (mCons (mOp gIx (mV 0) (mC (.int 0))) (mNil))) (mNil))) (mV 0) (mV 1)) (sSeq (whL (mTst (mOp gGt (mV 4) (mC (.int 0)))) (sSeq (sIf (mTst (mOp gEq (mOp gMod (mV 4) (mC (.int 2))) (mC (.int 1)))) (sAsg (.nm 2) (mApp f_product_of (mCons (mV 3) (mCons (mV 2) (mNil))))) (sPass)) (sSeq (sAsg (.nm 4) (mOp gDiv (mV 4) (mC (.int 2)))) (sIf (mTst (mOp gGt (mV 4) (mC (.int 0)))) (sAsg (.nm 3) (mApp f_product_of (mCons (mV 3) (mCons (mV 3) (mNil))))) (sPass)))) 4000) (sRet (mV 2))))) (wFn 5 v_power_of) _) (by decide +kernel)
def v_reduced_by : VS := wSeq (wIf (vTst (vOp vEq (vV 0) (vC (.int 0)))) (wRet (vC (.tup u_ZERO))) wPass)
    (wSeq (wPar3 3 4 5 (vC (.int 1)) (vV 0) (vApp (vFN vGcd) (vCons (vV 0) (vCons (vV 2) vNil))))
    (wSeq (wWh (vTst (vOp vGt (vV 5) (vC (.int 1)))) (wSeq (wPar 3 4 (vOp vMul (vV 3) (vV 5)) (vOp vDiv (vV 4) (vV 5)))
    (wAsg (.nm 5) (vApp (vFN vGcd) (vCons (vV 4) (vCons (vOp vMul (vV 5) (vV 5)) vNil))))) 4000)
    (wSeq (wAsg (.nm 6) (vApp (vFN vGcd) (vCons (vV 3) (vCons (vV 1) vNil))))
    (wRet (vApp (vFN vTup) (vCons (vOp vDiv (vV 0) (vV 6)) (vCons (vOp vDiv (vV 1) (vV 6)) vNil)))))))
def w_reduced_by : VFT := wFn 7 v_reduced_by
instance : SF f_reduced_by w_reduced_by (2 ^ 0) := SF.weak (inferInstance : SF (fnOf 7 (sSeq (sIf (mTst (mOp gEq (mV 0) (mC (.int 0)))) (sRet (mC (.tup d_ZERO))) (sPass)) (sSeq (sPar3 3 4 5 (mC (.int 1)) (mV 0) (mApp gGcd (mCons (mV 0) (mCons (mV 2) (mNil))))) (sSeq (whL (mTst (mOp gGt (mV 5) (mC (.int 1)))) (sSeq (sPar 3 4 (mOp gMul (mV 3) (mV 5)) (mOp gDiv (mV 4) (mV 5))) (sAsg (.nm 5) (mApp gGcd (mCons (mV 4) (mCons (mOp gMul (mV 5) (mV 5)) (mNil)))))) 4000) (sSeq (sAsg (.nm 6) (mApp gGcd (mCons (mV 3) (mCons (mV 1) (mNil))))) (sRet (mApp gTup (mCons (mOp gDiv (mV 0) (mV 6)) (mCons (mOp gDiv (mV 1) (mV 6)) (mNil)))))))))) (wFn 7 v_reduced_by) _) (by decide +kernel)
def v_powered : VS := wSeq (wAsg (.tp [.nm 2, .nm 3]) (vApp w_power_of (vCons (vV 0) (vCons (vV 1) vNil))))
    (wRet (vL vTupL (vLc (.nm 5) [5] (vSrc (vV 2)) vYes (vL vTupL (vLc (.nm 4) [4] (vSrc (vV 5)) vYes (vApp w_reduced_by (vCons (vV 4) (vCons (vV 3) (vCons (vOp vIx (vV 0) (vC (.int 1))) vNil)))))))))
def w_powered : VFT := wFn 6 v_powered
instance : SF f_powered w_powered (2 ^ 48) := SF.weak (inferInstance : SF (fnOf 6 (sSeq (sAsg (.tp [.nm 2, .nm 3]) (mApp f_power_of (mCons (mV 0) (mCons (mV 1) (mNil))))) (sRet (mL gTupL (mLc (.nm 5) [5] (mSrc (mV 2)) (mYes) (mL gTupL (mLc (.nm 4) [4] (mSrc (mV 5)) (mYes) (mApp f_reduced_by (mCons (mV 4) (mCons (mV 3) (mCons (mOp gIx (mV 0) (mC (.int 1))) (mNil)))))))))))) (wFn 6 v_powered) _) (by decide +kernel)
def v_power : VS := wSeq (wExpr (vApp w_check_table (vCons (vV 0) vNil)))
    (wSeq (wExpr (vApp w_check_rounds (vCons (vV 1) vNil)))
    (wRet (vApp w_powered (vCons (vApp w_grid_of (vCons (vV 0) vNil)) (vCons (vV 1) vNil)))))
def w_power : VFT := wFn 2 v_power
instance : SF f_power w_power (2 ^ 177) := SF.weak (inferInstance : SF (fnOf 2 (sSeq (sExpr (mApp f_check_table (mCons (mV 0) (mNil)))) (sSeq (sExpr (mApp f_check_rounds (mCons (mV 1) (mNil)))) (sRet (mApp f_powered (mCons (mApp f_grid_of (mCons (mV 0) (mNil))) (mCons (mV 1) (mNil)))))))) (wFn 2 v_power) _) (by decide +kernel)
def v_keeps_all : VS := wSeq (wExpr (vApp w_check_table (vCons (vV 0) vNil)))
    (wRet (vL vAll (vLc (.nm 1) [1] (vSrc (vApp w_column_sums (vCons (vV 0) vNil))) vYes (vOp vEq (vV 1) (vC (.tup u_ONE))))))
def w_keeps_all : VFT := wFn 2 v_keeps_all
instance : SF f_keeps_all w_keeps_all (2 ^ 177) := SF.weak (inferInstance : SF (fnOf 2 (sSeq (sExpr (mApp f_check_table (mCons (mV 0) (mNil)))) (sRet (mL gAll (mLc (.nm 1) [1] (mSrc (mApp f_column_sums (mCons (mV 0) (mNil)))) (mYes) (mOp gEq (mV 1) (mC (.tup d_ONE)))))))) (wFn 2 v_keeps_all) _) (by decide +kernel)
def v_check_casks : VS := wIf (vNot (vTst (vChain vLe vLe (vC (.int 1)) (vV 0) (vC (.int 8))))) (wRaise "InvalidNumber" (vV 0)) wPass
def w_check_casks : VFT := wFn 1 v_check_casks
instance : SF f_check_casks w_check_casks (2 ^ 0) := SF.weak (inferInstance : SF (fnOf 1 (sIf (mNot (mTst (mChain gLe gLe (mC (.int 1)) (mV 0) (mC (.int 8))))) (sRaise "InvalidNumber" (mV 0)) (sPass))) (wFn 1 v_check_casks) _) (by decide +kernel)
def v_still : VS := wSeq (wExpr (vApp w_check_casks (vCons (vV 0) vNil)))
    (wRet (vApp w_rows_of (vCons (vApp w_still_grid (vCons (vV 0) vNil)) vNil)))
def w_still : VFT := wFn 1 v_still
instance : SF f_still w_still (2 ^ 49) := SF.weak (inferInstance : SF (fnOf 1 (sSeq (sExpr (mApp f_check_casks (mCons (mV 0) (mNil)))) (sRet (mApp f_rows_of (mCons (mApp f_still_grid (mCons (mV 0) (mNil))) (mNil)))))) (wFn 1 v_still) _) (by decide +kernel)
def v_caught : VS := wSeq (wAsg (.nm 3) (vC .non))
    (wSeq (wTry cat_CaskError 4 (wIf (vTst (vOp vEq (vV 0) (vC (.int 0)))) (wExpr (vApp w_behind (vCons (vV 1) (vCons (vV 2) vNil)))) (wIf (vTst (vOp vEq (vV 0) (vC (.int 1)))) (wExpr (vApp w_power (vCons (vV 1) (vCons (vV 2) vNil)))) (wIf (vTst (vOp vEq (vV 0) (vC (.int 2)))) (wExpr (vApp w_keeps_all (vCons (vV 1) vNil))) (wExpr (vApp w_still (vCons (vV 1) vNil)))))) (wAsg (.nm 3) (vV 4)))
    (wRet (vV 3)))
def w_caught : VFT := wFn 5 v_caught
instance : SF f_caught w_caught (2 ^ 180) := SF.weak (inferInstance : SF (fnOf 5 (sSeq (sAsg (.nm 3) (mC .non)) (sSeq (sTry cat_CaskError 4 (sIf (mTst (mOp gEq (mV 0) (mC (.int 0)))) (sExpr (mApp f_behind (mCons (mV 1) (mCons (mV 2) (mNil))))) (sIf (mTst (mOp gEq (mV 0) (mC (.int 1)))) (sExpr (mApp f_power (mCons (mV 1) (mCons (mV 2) (mNil))))) (sIf (mTst (mOp gEq (mV 0) (mC (.int 2)))) (sExpr (mApp f_keeps_all (mCons (mV 1) (mNil)))) (sExpr (mApp f_still (mCons (mV 1) (mNil))))))) (sAsg (.nm 3) (mV 4))) (sRet (mV 3))))) (wFn 5 v_caught) _) (by decide +kernel)
def v_same (rec : VFT) : VS := wSeq (wIf (vTru (vUn (vIsTy "tuple") (vV 1))) (wSeq (wIf (vOr (vNot (vTru (vUn (vIsTy "tuple") (vV 0)))) (vTst (vOp vNe (vApp (vFN vLen) (vCons (vV 0) vNil)) (vApp (vFN vLen) (vCons (vV 1) vNil))))) (wRet (vC (.bl false))) wPass)
    (wRet (vL vAll (vLc (.nm 2) [2] (vRng1 (vApp (vFN vLen) (vCons (vV 1) vNil))) vYes (vApp rec (vCons (vOp vIx (vV 0) (vV 2)) (vCons (vOp vIx (vV 1) (vV 2)) vNil))))))) wPass)
    (wSeq (wIf (vTru (vUn (vIsTy "bool") (vV 1))) (wRet (vAndV (vUn (vIsTy "bool") (vV 0)) (vOp vEq (vV 0) (vV 1)))) wPass)
    (wRet (vAndV (vUn (vIsTy "int") (vV 0)) (vAndV (vNotV (vUn (vIsTy "bool") (vV 0))) (vOp vEq (vV 0) (vV 1))))))
def w_same : Nat → VFT
  | 0 => fun _ _ _ => False
  | n + 1 => wFn 3 (v_same (w_same n))
instance : SF (f_same 0) (w_same 0) 0 := SF.zero
instance : SF (f_same 1) (w_same 1) (2 ^ 0) := SF.weak (inferInstance : SF (fnOf 3 (sSeq (sIf (mTru (mUn (gIsTy "tuple") (mV 1))) (sSeq (sIf (mOr (mNot (mTru (mUn (gIsTy "tuple") (mV 0)))) (mTst (mOp gNe (mApp gLen (mCons (mV 0) (mNil))) (mApp gLen (mCons (mV 1) (mNil)))))) (sRet (mC (.bl false))) (sPass)) (sRet (mL gAll (mLc (.nm 2) [2] (mRng1 (mApp gLen (mCons (mV 1) (mNil)))) (mYes) (mApp (f_same 0) (mCons (mOp gIx (mV 0) (mV 2)) (mCons (mOp gIx (mV 1) (mV 2)) (mNil)))))))) (sPass)) (sSeq (sIf (mTru (mUn (gIsTy "bool") (mV 1))) (sRet (mAndV (mUn (gIsTy "bool") (mV 0)) (mOp gEq (mV 0) (mV 1)))) (sPass)) (sRet (mAndV (mUn (gIsTy "int") (mV 0)) (mAndV (mNotV (mUn (gIsTy "bool") (mV 0))) (mOp gEq (mV 0) (mV 1)))))))) (wFn 3 (v_same (w_same 0))) _) (by decide +kernel)
instance : SF (f_same 2) (w_same 2) (2 ^ 24) := SF.weak (inferInstance : SF (fnOf 3 (sSeq (sIf (mTru (mUn (gIsTy "tuple") (mV 1))) (sSeq (sIf (mOr (mNot (mTru (mUn (gIsTy "tuple") (mV 0)))) (mTst (mOp gNe (mApp gLen (mCons (mV 0) (mNil))) (mApp gLen (mCons (mV 1) (mNil)))))) (sRet (mC (.bl false))) (sPass)) (sRet (mL gAll (mLc (.nm 2) [2] (mRng1 (mApp gLen (mCons (mV 1) (mNil)))) (mYes) (mApp (f_same 1) (mCons (mOp gIx (mV 0) (mV 2)) (mCons (mOp gIx (mV 1) (mV 2)) (mNil)))))))) (sPass)) (sSeq (sIf (mTru (mUn (gIsTy "bool") (mV 1))) (sRet (mAndV (mUn (gIsTy "bool") (mV 0)) (mOp gEq (mV 0) (mV 1)))) (sPass)) (sRet (mAndV (mUn (gIsTy "int") (mV 0)) (mAndV (mNotV (mUn (gIsTy "bool") (mV 0))) (mOp gEq (mV 0) (mV 1)))))))) (wFn 3 (v_same (w_same 1))) _) (by decide +kernel)
instance : SF (f_same 3) (w_same 3) (2 ^ 48) := SF.weak (inferInstance : SF (fnOf 3 (sSeq (sIf (mTru (mUn (gIsTy "tuple") (mV 1))) (sSeq (sIf (mOr (mNot (mTru (mUn (gIsTy "tuple") (mV 0)))) (mTst (mOp gNe (mApp gLen (mCons (mV 0) (mNil))) (mApp gLen (mCons (mV 1) (mNil)))))) (sRet (mC (.bl false))) (sPass)) (sRet (mL gAll (mLc (.nm 2) [2] (mRng1 (mApp gLen (mCons (mV 1) (mNil)))) (mYes) (mApp (f_same 2) (mCons (mOp gIx (mV 0) (mV 2)) (mCons (mOp gIx (mV 1) (mV 2)) (mNil)))))))) (sPass)) (sSeq (sIf (mTru (mUn (gIsTy "bool") (mV 1))) (sRet (mAndV (mUn (gIsTy "bool") (mV 0)) (mOp gEq (mV 0) (mV 1)))) (sPass)) (sRet (mAndV (mUn (gIsTy "int") (mV 0)) (mAndV (mNotV (mUn (gIsTy "bool") (mV 0))) (mOp gEq (mV 0) (mV 1)))))))) (wFn 3 (v_same (w_same 2))) _) (by decide +kernel)
instance : SF (f_same 4) (w_same 4) (2 ^ 72) := SF.weak (inferInstance : SF (fnOf 3 (sSeq (sIf (mTru (mUn (gIsTy "tuple") (mV 1))) (sSeq (sIf (mOr (mNot (mTru (mUn (gIsTy "tuple") (mV 0)))) (mTst (mOp gNe (mApp gLen (mCons (mV 0) (mNil))) (mApp gLen (mCons (mV 1) (mNil)))))) (sRet (mC (.bl false))) (sPass)) (sRet (mL gAll (mLc (.nm 2) [2] (mRng1 (mApp gLen (mCons (mV 1) (mNil)))) (mYes) (mApp (f_same 3) (mCons (mOp gIx (mV 0) (mV 2)) (mCons (mOp gIx (mV 1) (mV 2)) (mNil)))))))) (sPass)) (sSeq (sIf (mTru (mUn (gIsTy "bool") (mV 1))) (sRet (mAndV (mUn (gIsTy "bool") (mV 0)) (mOp gEq (mV 0) (mV 1)))) (sPass)) (sRet (mAndV (mUn (gIsTy "int") (mV 0)) (mAndV (mNotV (mUn (gIsTy "bool") (mV 0))) (mOp gEq (mV 0) (mV 1)))))))) (wFn 3 (v_same (w_same 3))) _) (by decide +kernel)
instance : SF (f_same 5) (w_same 5) (2 ^ 96) := SF.weak (inferInstance : SF (fnOf 3 (sSeq (sIf (mTru (mUn (gIsTy "tuple") (mV 1))) (sSeq (sIf (mOr (mNot (mTru (mUn (gIsTy "tuple") (mV 0)))) (mTst (mOp gNe (mApp gLen (mCons (mV 0) (mNil))) (mApp gLen (mCons (mV 1) (mNil)))))) (sRet (mC (.bl false))) (sPass)) (sRet (mL gAll (mLc (.nm 2) [2] (mRng1 (mApp gLen (mCons (mV 1) (mNil)))) (mYes) (mApp (f_same 4) (mCons (mOp gIx (mV 0) (mV 2)) (mCons (mOp gIx (mV 1) (mV 2)) (mNil)))))))) (sPass)) (sSeq (sIf (mTru (mUn (gIsTy "bool") (mV 1))) (sRet (mAndV (mUn (gIsTy "bool") (mV 0)) (mOp gEq (mV 0) (mV 1)))) (sPass)) (sRet (mAndV (mUn (gIsTy "int") (mV 0)) (mAndV (mNotV (mUn (gIsTy "bool") (mV 0))) (mOp gEq (mV 0) (mV 1)))))))) (wFn 3 (v_same (w_same 4))) _) (by decide +kernel)
instance : SF (f_same 6) (w_same 6) (2 ^ 120) := SF.weak (inferInstance : SF (fnOf 3 (sSeq (sIf (mTru (mUn (gIsTy "tuple") (mV 1))) (sSeq (sIf (mOr (mNot (mTru (mUn (gIsTy "tuple") (mV 0)))) (mTst (mOp gNe (mApp gLen (mCons (mV 0) (mNil))) (mApp gLen (mCons (mV 1) (mNil)))))) (sRet (mC (.bl false))) (sPass)) (sRet (mL gAll (mLc (.nm 2) [2] (mRng1 (mApp gLen (mCons (mV 1) (mNil)))) (mYes) (mApp (f_same 5) (mCons (mOp gIx (mV 0) (mV 2)) (mCons (mOp gIx (mV 1) (mV 2)) (mNil)))))))) (sPass)) (sSeq (sIf (mTru (mUn (gIsTy "bool") (mV 1))) (sRet (mAndV (mUn (gIsTy "bool") (mV 0)) (mOp gEq (mV 0) (mV 1)))) (sPass)) (sRet (mAndV (mUn (gIsTy "int") (mV 0)) (mAndV (mNotV (mUn (gIsTy "bool") (mV 0))) (mOp gEq (mV 0) (mV 1)))))))) (wFn 3 (v_same (w_same 5))) _) (by decide +kernel)
instance : SF (f_same 7) (w_same 7) (2 ^ 144) := SF.weak (inferInstance : SF (fnOf 3 (sSeq (sIf (mTru (mUn (gIsTy "tuple") (mV 1))) (sSeq (sIf (mOr (mNot (mTru (mUn (gIsTy "tuple") (mV 0)))) (mTst (mOp gNe (mApp gLen (mCons (mV 0) (mNil))) (mApp gLen (mCons (mV 1) (mNil)))))) (sRet (mC (.bl false))) (sPass)) (sRet (mL gAll (mLc (.nm 2) [2] (mRng1 (mApp gLen (mCons (mV 1) (mNil)))) (mYes) (mApp (f_same 6) (mCons (mOp gIx (mV 0) (mV 2)) (mCons (mOp gIx (mV 1) (mV 2)) (mNil)))))))) (sPass)) (sSeq (sIf (mTru (mUn (gIsTy "bool") (mV 1))) (sRet (mAndV (mUn (gIsTy "bool") (mV 0)) (mOp gEq (mV 0) (mV 1)))) (sPass)) (sRet (mAndV (mUn (gIsTy "int") (mV 0)) (mAndV (mNotV (mUn (gIsTy "bool") (mV 0))) (mOp gEq (mV 0) (mV 1)))))))) (wFn 3 (v_same (w_same 6))) _) (by decide +kernel)
instance : SF (f_same 8) (w_same 8) (2 ^ 168) := SF.weak (inferInstance : SF (fnOf 3 (sSeq (sIf (mTru (mUn (gIsTy "tuple") (mV 1))) (sSeq (sIf (mOr (mNot (mTru (mUn (gIsTy "tuple") (mV 0)))) (mTst (mOp gNe (mApp gLen (mCons (mV 0) (mNil))) (mApp gLen (mCons (mV 1) (mNil)))))) (sRet (mC (.bl false))) (sPass)) (sRet (mL gAll (mLc (.nm 2) [2] (mRng1 (mApp gLen (mCons (mV 1) (mNil)))) (mYes) (mApp (f_same 7) (mCons (mOp gIx (mV 0) (mV 2)) (mCons (mOp gIx (mV 1) (mV 2)) (mNil)))))))) (sPass)) (sSeq (sIf (mTru (mUn (gIsTy "bool") (mV 1))) (sRet (mAndV (mUn (gIsTy "bool") (mV 0)) (mOp gEq (mV 0) (mV 1)))) (sPass)) (sRet (mAndV (mUn (gIsTy "int") (mV 0)) (mAndV (mNotV (mUn (gIsTy "bool") (mV 0))) (mOp gEq (mV 0) (mV 1)))))))) (wFn 3 (v_same (w_same 7))) _) (by decide +kernel)
def v_no_table : VS := wSeq (wAsg (.nm 4) (vApp w_caught (vCons (vV 0) (vCons (vV 1) (vCons (vV 2) vNil)))))
    (wRet (vAndV (vIsE errNames sub_InvalidTable (vV 4)) (vOp vEq (vApp (vFN vRepr) (vCons (vVal errNames (vV 4)) vNil)) (vApp (vFN vRepr) (vCons (vV 3) vNil)))))
def w_no_table : VFT := wFn 5 v_no_table
instance : SF f_no_table w_no_table (2 ^ 181) := SF.weak (inferInstance : SF (fnOf 5 (sSeq (sAsg (.nm 4) (mApp f_caught (mCons (mV 0) (mCons (mV 1) (mCons (mV 2) (mNil)))))) (sRet (mAndV (mIsE errNames sub_InvalidTable (mV 4)) (mOp gEq (mApp gRepr (mCons (mVal errNames (mV 4)) (mNil))) (mApp gRepr (mCons (mV 3) (mNil)))))))) (wFn 5 v_no_table) _) (by decide +kernel)
def v_refusals : VS := wSeq (wAsg (.nm 4) (vApp w_spoilt (vCons (vV 0) (vCons (vOp vIx (vV 1) (vC (.int 0))) (vCons (vOp vIx (vV 1) (vC (.int 1))) (vCons (vV 2) vNil))))))
    (wSeq (wIf (vTst (vOp (vIs true) (vApp w_is_table (vCons (vV 4) vNil)) (vC (.bl false)))) (wRet (vC (.bl false))) wPass)
    (wSeq (wIf (vOr (vNot (vTru (vApp w_no_table (vCons (vC (.int 0)) (vCons (vV 4) (vCons (vV 3) (vCons (vV 4) vNil))))))) (vNot (vTru (vApp w_no_table (vCons (vC (.int 0)) (vCons (vV 2) (vCons (vV 4) (vCons (vV 4) vNil)))))))) (wRet (vC (.bl false))) wPass)
    (wSeq (wAsg (.nm 5) (vOp vSub (vOp vSub (vC (.int 0)) (vC (.int 1))) (vApp w_drop (vCons (vV 0) (vCons (vC (.int 5)) vNil)))))
    (wSeq (wIf (vOr (vNot (vTru (vApp w_no_table (vCons (vC (.int 1)) (vCons (vV 4) (vCons (vV 5) (vCons (vV 4) vNil))))))) (vNot (vTru (vApp w_no_table (vCons (vC (.int 2)) (vCons (vV 4) (vCons (vC .non) (vCons (vV 4) vNil)))))))) (wRet (vC (.bl false))) wPass)
    (wSeq (wAsg (.nm 6) (vApp w_caught (vCons (vC (.int 1)) (vCons (vV 2) (vCons (vV 5) vNil)))))
    (wSeq (wIf (vOr (vNot (vTru (vIsE errNames sub_InvalidNumber (vV 6)))) (vNot (vTru (vApp (w_same 8) (vCons (vVal errNames (vV 6)) (vCons (vV 5) vNil)))))) (wRet (vC (.bl false))) wPass)
    (wSeq (wAsg (.nm 6) (vApp w_caught (vCons (vC (.int 0)) (vCons (vV 2) (vCons (vV 3) vNil)))))
    (wSeq (wIf (vTst (vOp vEq (vApp (vFN vLen) (vCons (vV 3) vNil)) (vApp (vFN vLen) (vCons (vV 2) vNil)))) (wRet (vOp (vIs false) (vV 6) (vC .non))) wPass)
    (wRet (vAndV (vIsE errNames sub_Unlike (vV 6)) (vApp (w_same 8) (vCons (vVal errNames (vV 6)) (vCons (vApp (vFN vLen) (vCons (vV 3) vNil)) vNil)))))))))))))
def w_refusals : VFT := wFn 7 v_refusals
instance : SF f_refusals w_refusals (2 ^ 184) := SF.weak (inferInstance : SF (fnOf 7 (sSeq (sAsg (.nm 4) (mApp f_spoilt (mCons (mV 0) (mCons (mOp gIx (mV 1) (mC (.int 0))) (mCons (mOp gIx (mV 1) (mC (.int 1))) (mCons (mV 2) (mNil))))))) (sSeq (sIf (mTst (mOp (gIs true) (mApp f_is_table (mCons (mV 4) (mNil))) (mC (.bl false)))) (sRet (mC (.bl false))) (sPass)) (sSeq (sIf (mOr (mNot (mTru (mApp f_no_table (mCons (mC (.int 0)) (mCons (mV 4) (mCons (mV 3) (mCons (mV 4) (mNil)))))))) (mNot (mTru (mApp f_no_table (mCons (mC (.int 0)) (mCons (mV 2) (mCons (mV 4) (mCons (mV 4) (mNil))))))))) (sRet (mC (.bl false))) (sPass)) (sSeq (sAsg (.nm 5) (mOp gSub (mOp gSub (mC (.int 0)) (mC (.int 1))) (mApp f_drop (mCons (mV 0) (mCons (mC (.int 5)) (mNil)))))) (sSeq (sIf (mOr (mNot (mTru (mApp f_no_table (mCons (mC (.int 1)) (mCons (mV 4) (mCons (mV 5) (mCons (mV 4) (mNil)))))))) (mNot (mTru (mApp f_no_table (mCons (mC (.int 2)) (mCons (mV 4) (mCons (mC .non) (mCons (mV 4) (mNil))))))))) (sRet (mC (.bl false))) (sPass)) (sSeq (sAsg (.nm 6) (mApp f_caught (mCons (mC (.int 1)) (mCons (mV 2) (mCons (mV 5) (mNil)))))) (sSeq (sIf (mOr (mNot (mTru (mIsE errNames sub_InvalidNumber (mV 6)))) (mNot (mTru (mApp (f_same 8) (mCons (mVal errNames (mV 6)) (mCons (mV 5) (mNil))))))) (sRet (mC (.bl false))) (sPass)) (sSeq (sAsg (.nm 6) (mApp f_caught (mCons (mC (.int 0)) (mCons (mV 2) (mCons (mV 3) (mNil)))))) (sSeq (sIf (mTst (mOp gEq (mApp gLen (mCons (mV 3) (mNil))) (mApp gLen (mCons (mV 2) (mNil))))) (sRet (mOp (gIs false) (mV 6) (mC .non))) (sPass)) (sRet (mAndV (mIsE errNames sub_Unlike (mV 6)) (mApp (f_same 8) (mCons (mVal errNames (mV 6)) (mCons (mApp gLen (mCons (mV 3) (mNil))) (mNil)))))))))))))))) (wFn 7 v_refusals) _) (by decide +kernel)
def v_add : VS := wRet (vApp w_low (vCons (vOp vAdd (vOp vMul (vOp vIx (vV 0) (vC (.int 0))) (vOp vIx (vV 1) (vC (.int 1)))) (vOp vMul (vOp vIx (vV 1) (vC (.int 0))) (vOp vIx (vV 0) (vC (.int 1))))) (vCons (vOp vMul (vOp vIx (vV 0) (vC (.int 1))) (vOp vIx (vV 1) (vC (.int 1)))) vNil)))
def w_add : VFT := wFn 2 v_add
instance : SF f_add w_add (2 ^ 1) := SF.weak (inferInstance : SF (fnOf 2 (sRet (mApp f_low (mCons (mOp gAdd (mOp gMul (mOp gIx (mV 0) (mC (.int 0))) (mOp gIx (mV 1) (mC (.int 1)))) (mOp gMul (mOp gIx (mV 1) (mC (.int 0))) (mOp gIx (mV 0) (mC (.int 1))))) (mCons (mOp gMul (mOp gIx (mV 0) (mC (.int 1))) (mOp gIx (mV 1) (mC (.int 1)))) (mNil)))))) (wFn 2 v_add) _) (by decide +kernel)
def v_entry : VS := wSeq (wAsg (.nm 2) (vApp (vFN vTup) (vCons (vC (.int 0)) (vCons (vC (.int 1)) vNil))))
    (wSeq (wFor (.nm 3) (vRng1 (vApp (vFN vLen) (vCons (vV 0) vNil))) (wAsg (.nm 2) (vApp w_add (vCons (vV 2) (vCons (vApp (vFN vTup) (vCons (vOp vMul (vOp vIx (vOp vIx (vV 0) (vV 3)) (vC (.int 0))) (vOp vIx (vOp vIx (vV 1) (vV 3)) (vC (.int 0)))) (vCons (vOp vMul (vOp vIx (vOp vIx (vV 0) (vV 3)) (vC (.int 1))) (vOp vIx (vOp vIx (vV 1) (vV 3)) (vC (.int 1)))) vNil))) vNil)))))
    (wRet (vV 2)))
def w_entry : VFT := wFn 4 v_entry
instance : SF f_entry w_entry (2 ^ 64) := SF.weak (inferInstance : SF (fnOf 4 (sSeq (sAsg (.nm 2) (mApp gTup (mCons (mC (.int 0)) (mCons (mC (.int 1)) (mNil))))) (sSeq (sFor (.nm 3) (mRng1 (mApp gLen (mCons (mV 0) (mNil)))) (sAsg (.nm 2) (mApp f_add (mCons (mV 2) (mCons (mApp gTup (mCons (mOp gMul (mOp gIx (mOp gIx (mV 0) (mV 3)) (mC (.int 0))) (mOp gIx (mOp gIx (mV 1) (mV 3)) (mC (.int 0)))) (mCons (mOp gMul (mOp gIx (mOp gIx (mV 0) (mV 3)) (mC (.int 1))) (mOp gIx (mOp gIx (mV 1) (mV 3)) (mC (.int 1)))) (mNil)))) (mNil)))))) (sRet (mV 2))))) (wFn 4 v_entry) _) (by decide +kernel)
def v_l_behind : VS := wSeq (wAsg (.nm 2) (vBox (vLc (.nm 4) [4] (vRng1 (vApp (vFN vLen) (vCons (vV 0) vNil))) vYes (vBox (vLc (.nm 3) [3] (vSrc (vV 0)) vYes (vOp vIx (vV 3) (vV 4)))))))
    (wSeq (wOwn 5 (vFLst vNil))
    (wSeq (wFor (.nm 3) (vSrc (vV 1)) (wAppO 5 (vL vTupL (vLc (.nm 6) [6] (vSrc (vV 2)) vYes (vApp w_entry (vCons (vV 3) (vCons (vV 6) vNil)))))))
    (wFrz 5 (wRet (vApp (vFN vTuple) (vCons (vV 5) vNil))))))
def w_l_behind : VFT := wFn 7 v_l_behind
instance : SF f_l_behind w_l_behind (2 ^ 150) := SF.weak (inferInstance : SF (fnOf 7 (sSeq (sAsg (.nm 2) (mBox (mLc (.nm 4) [4] (mRng1 (mApp gLen (mCons (mV 0) (mNil)))) (mYes) (mBox (mLc (.nm 3) [3] (mSrc (mV 0)) (mYes) (mOp gIx (mV 3) (mV 4))))))) (sSeq (sOwn 5 (mApp gLst (mNil))) (sSeq (sFor (.nm 3) (mSrc (mV 1)) (sAppO 5 (mL gTupL (mLc (.nm 6) [6] (mSrc (mV 2)) (mYes) (mApp f_entry (mCons (mV 3) (mCons (mV 6) (mNil)))))))) (sFrz 5 (sRet (mApp gTuple (mCons (mV 5) (mNil))))))))) (wFn 7 v_l_behind) _) (by decide +kernel)
def v_l_still : VS := wSeq (wIf (vAnd (vTst (vOp vLe (vC (.int 1)) (vV 0))) (vTst (vOp vLe (vV 0) (vC (.int 8))))) (wSeq (wAsg (.nm 1) (vBox (vLc (.nm 3) [3] (vRng1 (vV 0)) vYes (vBox (vLc (.nm 2) [2] (vRng1 (vV 0)) vYes (vApp (vFN vInt) (vCons (vOp vEq (vV 2) (vV 3)) vNil)))))))
    (wRet (vApp (w_same 8) (vCons (vApp w_still (vCons (vV 0) vNil)) (vCons (vApp w_table_of (vCons (vV 1) (vCons (vOp vMul (vApp (vFN vLst) (vCons (vC (.int 1)) vNil)) (vV 0)) vNil))) vNil))))) wPass)
    (wSeq (wAsg (.nm 4) (vApp w_caught (vCons (vC (.int 3)) (vCons (vV 0) (vCons (vC .non) vNil)))))
    (wRet (vAndV (vIsE errNames sub_InvalidNumber (vV 4)) (vApp (w_same 8) (vCons (vVal errNames (vV 4)) (vCons (vV 0) vNil))))))
def w_l_still : VFT := wFn 5 v_l_still
instance : SF f_l_still w_l_still (2 ^ 181) := SF.weak (inferInstance : SF (fnOf 5 (sSeq (sIf (mAnd (mTst (mOp gLe (mC (.int 1)) (mV 0))) (mTst (mOp gLe (mV 0) (mC (.int 8))))) (sSeq (sAsg (.nm 1) (mBox (mLc (.nm 3) [3] (mRng1 (mV 0)) (mYes) (mBox (mLc (.nm 2) [2] (mRng1 (mV 0)) (mYes) (mApp gInt (mCons (mOp gEq (mV 2) (mV 3)) (mNil)))))))) (sRet (mApp (f_same 8) (mCons (mApp f_still (mCons (mV 0) (mNil))) (mCons (mApp f_table_of (mCons (mV 1) (mCons (mOp gMul (mApp gLst (mCons (mC (.int 1)) (mNil))) (mV 0)) (mNil)))) (mNil)))))) (sPass)) (sSeq (sAsg (.nm 4) (mApp f_caught (mCons (mC (.int 3)) (mCons (mV 0) (mCons (mC .non) (mNil)))))) (sRet (mAndV (mIsE errNames sub_InvalidNumber (mV 4)) (mApp (f_same 8) (mCons (mVal errNames (mV 4)) (mCons (mV 0) (mNil))))))))) (wFn 5 v_l_still) _) (by decide +kernel)
def v_l_powered : VS := wSeq (wAsg (.nm 3) (vApp (vFN vLen) (vCons (vV 0) vNil)))
    (wSeq (wAsg (.nm 4) (vBox (vLc (.nm 6) [6] (vRng1 (vV 3)) vYes (vBox (vLc (.nm 5) [5] (vRng1 (vV 3)) vYes (vApp (vFN vInt) (vCons (vOp vEq (vV 5) (vV 6)) vNil)))))))
    (wSeq (wAsg (.nm 7) (vC (.int 1)))
    (wSeq (wFor (.nm 8) (vRng1 (vV 2)) (wSeq (wOwn 9 (vFLst vNil))
    (wSeq (wFor (.nm 10) (vSrc (vV 4)) (wAppO 9 (vBox (vLc (.nm 5) [5] (vRng1 (vV 3)) vYes (vL vSum (vLc (.nm 11) [11] (vRng1 (vV 3)) vYes (vOp vMul (vOp vIx (vOp vIx (vV 0) (vV 11)) (vV 5)) (vOp vIx (vV 10) (vV 11)))))))))
    (wSeq (wFrz 9 (wAsg (.nm 4) (vV 9)))
    (wAsg (.nm 7) (vOp vMul (vV 7) (vV 1)))))))
    (wRet (vApp w_table_of (vCons (vV 4) (vCons (vOp vMul (vApp (vFN vLst) (vCons (vV 7) vNil)) (vV 3)) vNil)))))))
def w_l_powered : VFT := wFn 12 v_l_powered
instance : SF f_l_powered w_l_powered (2 ^ 87) := SF.weak (inferInstance : SF (fnOf 12 (sSeq (sAsg (.nm 3) (mApp gLen (mCons (mV 0) (mNil)))) (sSeq (sAsg (.nm 4) (mBox (mLc (.nm 6) [6] (mRng1 (mV 3)) (mYes) (mBox (mLc (.nm 5) [5] (mRng1 (mV 3)) (mYes) (mApp gInt (mCons (mOp gEq (mV 5) (mV 6)) (mNil)))))))) (sSeq (sAsg (.nm 7) (mC (.int 1))) (sSeq (sFor (.nm 8) (mRng1 (mV 2)) (sSeq (sOwn 9 (mApp gLst (mNil))) (sSeq (sFor (.nm 10) (mSrc (mV 4)) (sAppO 9 (mBox (mLc (.nm 5) [5] (mRng1 (mV 3)) (mYes) (mL gSum (mLc (.nm 11) [11] (mRng1 (mV 3)) (mYes) (mOp gMul (mOp gIx (mOp gIx (mV 0) (mV 11)) (mV 5)) (mOp gIx (mV 10) (mV 11))))))))) (sSeq (sFrz 9 (sAsg (.nm 4) (mV 9))) (sAsg (.nm 7) (mOp gMul (mV 7) (mV 1))))))) (sRet (mApp f_table_of (mCons (mV 4) (mCons (mOp gMul (mApp gLst (mCons (mV 7) (mNil))) (mV 3)) (mNil)))))))))) (wFn 12 v_l_powered) _) (by decide +kernel)
def v_right : VS := wSeq (wAsg (.nm 1) (vOp vAdd (vC (.int 1)) (vApp w_drop (vCons (vV 0) (vCons (vOp vIx (vApp (vFN vLst) (vCons (vC (.int 5)) (vCons (vC (.int 5)) (vCons (vC (.int 8)) vNil)))) (vApp w_drop (vCons (vV 0) (vCons (vC (.int 3)) vNil)))) vNil)))))
    (wSeq (wAsg (.nm 2) (vApp w_draw (vCons (vV 0) (vCons (vV 1) vNil))))
    (wSeq (wAsg (.nm 3) (vApp w_table_of (vCons (vOp vIx (vV 2) (vC (.int 0))) (vCons (vOp vIx (vV 2) (vC (.int 1))) vNil))))
    (wSeq (wAsg (.nm 4) (vApp w_draw (vCons (vV 0) (vCons (vV 1) vNil))))
    (wSeq (wAsg (.nm 5) (vApp w_table_of (vCons (vOp vIx (vV 4) (vC (.int 0))) (vCons (vOp vIx (vV 4) (vC (.int 1))) vNil))))
    (wSeq (wIf (vOr (vTst (vOp (vIs true) (vApp w_is_table (vCons (vV 3) vNil)) (vC (.bl true)))) (vTst (vOp (vIs true) (vApp w_is_table (vCons (vV 5) vNil)) (vC (.bl true))))) (wRet (vC (.bl false))) wPass)
    (wSeq (wIf (vNot (vTru (vApp (w_same 8) (vCons (vApp w_behind (vCons (vV 3) (vCons (vV 5) vNil))) (vCons (vApp w_l_behind (vCons (vV 3) (vCons (vV 5) vNil))) vNil))))) (wRet (vC (.bl false))) wPass)
    (wSeq (wAsg (.nm 6) (vL vAll (vLc (.nm 7) [7] (vRng1 (vV 1)) vYes (vOp vEq (vApp (vFN (vSq vSum)) (vCons (vOp vIx (vOp vIx (vV 2) (vC (.int 0))) (vV 7)) vNil)) (vOp vIx (vOp vIx (vV 2) (vC (.int 1))) (vV 7))))))
    (wSeq (wIf (vOr (vNot (vTru (vApp (w_same 8) (vCons (vApp w_keeps_all (vCons (vV 3) vNil)) (vCons (vV 6) vNil))))) (vNot (vTru (vApp w_l_still (vCons (vOp vSub (vApp w_drop (vCons (vV 0) (vCons (vC (.int 12)) vNil))) (vC (.int 1))) vNil))))) (wRet (vC (.bl false))) wPass)
    (wSeq (wAsg (.nm 8) (vOp vIx (vApp (vFN vLst) (vCons (vOp vAdd (vC (.int 1)) (vApp w_drop (vCons (vV 0) (vCons (vC (.int 3)) vNil)))) (vCons (vOp vAdd (vC (.int 6)) (vApp w_drop (vCons (vV 0) (vCons (vC (.int 3)) vNil)))) vNil))) (vApp (vFN vInt) (vCons (vOp vEq (vApp w_drop (vCons (vV 0) (vCons (vC (.int 5)) vNil))) (vC (.int 4))) vNil))))
    (wSeq (wAsg (.nm 9) (vOp vAdd (vC (.int 1)) (vApp w_drop (vCons (vV 0) (vCons (vC (.int 6)) vNil)))))
    (wSeq (wAsg (.nm 10) (vBox (vLc (.nm 11) [11] (vRng1 (vV 8)) vYes (vApp w_column (vCons (vV 0) (vCons (vV 8) (vCons (vV 9) vNil)))))))
    (wSeq (wAsg (.nm 12) (vApp w_table_of (vCons (vV 10) (vCons (vOp vMul (vApp (vFN vLst) (vCons (vV 9) vNil)) (vV 8)) vNil))))
    (wSeq (wAsg (.nm 13) (vApp w_drop (vCons (vV 0) (vCons (vOp vIx (vApp (vFN vLst) (vCons (vC (.int 3)) (vCons (vC (.int 8)) (vCons (vC (.int 40)) (vCons (vOp vSub (vC (.int 301)) (vOp vMul (vC (.int 260)) (vApp (vFN vInt) (vCons (vOp vGt (vV 8) (vC (.int 3))) vNil)))) vNil))))) (vApp w_drop (vCons (vV 0) (vCons (vC (.int 4)) vNil)))) vNil))))
    (wSeq (wIf (vNot (vTru (vApp (w_same 8) (vCons (vApp w_power (vCons (vV 12) (vCons (vV 13) vNil))) (vCons (vApp w_l_powered (vCons (vV 10) (vCons (vV 9) (vCons (vV 13) vNil)))) vNil))))) (wRet (vC (.bl false))) wPass)
    (wSeq (wIf (vOr (vNot (vTru (vApp (w_same 8) (vCons (vApp w_power (vCons (vV 3) (vCons (vC (.int 1)) vNil))) (vCons (vV 3) vNil))))) (vNot (vTru (vApp (w_same 8) (vCons (vApp w_behind (vCons (vV 12) (vCons (vApp w_still (vCons (vV 8) vNil)) vNil))) (vCons (vV 12) vNil)))))) (wRet (vC (.bl false))) wPass)
    (wRet (vApp w_refusals (vCons (vV 0) (vCons (vV 2) (vCons (vV 3) (vCons (vV 12) vNil)))))))))))))))))))))
def w_right : VFT := wFn 14 v_right
instance : SF f_right w_right (2 ^ 185) := SF.weak (inferInstance : SF (fnOf 14 (sSeq (sAsg (.nm 1) (mOp gAdd (mC (.int 1)) (mApp f_drop (mCons (mV 0) (mCons (mOp gIx (mApp gLst (mCons (mC (.int 5)) (mCons (mC (.int 5)) (mCons (mC (.int 8)) (mNil))))) (mApp f_drop (mCons (mV 0) (mCons (mC (.int 3)) (mNil))))) (mNil)))))) (sSeq (sAsg (.nm 2) (mApp f_draw (mCons (mV 0) (mCons (mV 1) (mNil))))) (sSeq (sAsg (.nm 3) (mApp f_table_of (mCons (mOp gIx (mV 2) (mC (.int 0))) (mCons (mOp gIx (mV 2) (mC (.int 1))) (mNil))))) (sSeq (sAsg (.nm 4) (mApp f_draw (mCons (mV 0) (mCons (mV 1) (mNil))))) (sSeq (sAsg (.nm 5) (mApp f_table_of (mCons (mOp gIx (mV 4) (mC (.int 0))) (mCons (mOp gIx (mV 4) (mC (.int 1))) (mNil))))) (sSeq (sIf (mOr (mTst (mOp (gIs true) (mApp f_is_table (mCons (mV 3) (mNil))) (mC (.bl true)))) (mTst (mOp (gIs true) (mApp f_is_table (mCons (mV 5) (mNil))) (mC (.bl true))))) (sRet (mC (.bl false))) (sPass)) (sSeq (sIf (mNot (mTru (mApp (f_same 8) (mCons (mApp f_behind (mCons (mV 3) (mCons (mV 5) (mNil)))) (mCons (mApp f_l_behind (mCons (mV 3) (mCons (mV 5) (mNil)))) (mNil)))))) (sRet (mC (.bl false))) (sPass)) (sSeq (sAsg (.nm 6) (mL gAll (mLc (.nm 7) [7] (mRng1 (mV 1)) (mYes) (mOp gEq (mApp (gSq gSum) (mCons (mOp gIx (mOp gIx (mV 2) (mC (.int 0))) (mV 7)) (mNil))) (mOp gIx (mOp gIx (mV 2) (mC (.int 1))) (mV 7)))))) (sSeq (sIf (mOr (mNot (mTru (mApp (f_same 8) (mCons (mApp f_keeps_all (mCons (mV 3) (mNil))) (mCons (mV 6) (mNil)))))) (mNot (mTru (mApp f_l_still (mCons (mOp gSub (mApp f_drop (mCons (mV 0) (mCons (mC (.int 12)) (mNil)))) (mC (.int 1))) (mNil)))))) (sRet (mC (.bl false))) (sPass)) (sSeq (sAsg (.nm 8) (mOp gIx (mApp gLst (mCons (mOp gAdd (mC (.int 1)) (mApp f_drop (mCons (mV 0) (mCons (mC (.int 3)) (mNil))))) (mCons (mOp gAdd (mC (.int 6)) (mApp f_drop (mCons (mV 0) (mCons (mC (.int 3)) (mNil))))) (mNil)))) (mApp gInt (mCons (mOp gEq (mApp f_drop (mCons (mV 0) (mCons (mC (.int 5)) (mNil)))) (mC (.int 4))) (mNil))))) (sSeq (sAsg (.nm 9) (mOp gAdd (mC (.int 1)) (mApp f_drop (mCons (mV 0) (mCons (mC (.int 6)) (mNil)))))) (sSeq (sAsg (.nm 10) (mBox (mLc (.nm 11) [11] (mRng1 (mV 8)) (mYes) (mApp f_column (mCons (mV 0) (mCons (mV 8) (mCons (mV 9) (mNil)))))))) (sSeq (sAsg (.nm 12) (mApp f_table_of (mCons (mV 10) (mCons (mOp gMul (mApp gLst (mCons (mV 9) (mNil))) (mV 8)) (mNil))))) (sSeq (sAsg (.nm 13) (mApp f_drop (mCons (mV 0) (mCons (mOp gIx (mApp gLst (mCons (mC (.int 3)) (mCons (mC (.int 8)) (mCons (mC (.int 40)) (mCons (mOp gSub (mC (.int 301)) (mOp gMul (mC (.int 260)) (mApp gInt (mCons (mOp gGt (mV 8) (mC (.int 3))) (mNil))))) (mNil)))))) (mApp f_drop (mCons (mV 0) (mCons (mC (.int 4)) (mNil))))) (mNil))))) (sSeq (sIf (mNot (mTru (mApp (f_same 8) (mCons (mApp f_power (mCons (mV 12) (mCons (mV 13) (mNil)))) (mCons (mApp f_l_powered (mCons (mV 10) (mCons (mV 9) (mCons (mV 13) (mNil))))) (mNil)))))) (sRet (mC (.bl false))) (sPass)) (sSeq (sIf (mOr (mNot (mTru (mApp (f_same 8) (mCons (mApp f_power (mCons (mV 3) (mCons (mC (.int 1)) (mNil)))) (mCons (mV 3) (mNil)))))) (mNot (mTru (mApp (f_same 8) (mCons (mApp f_behind (mCons (mV 12) (mCons (mApp f_still (mCons (mV 8) (mNil))) (mNil)))) (mCons (mV 12) (mNil))))))) (sRet (mC (.bl false))) (sPass)) (sRet (mApp f_refusals (mCons (mV 0) (mCons (mV 2) (mCons (mV 3) (mCons (mV 12) (mNil)))))))))))))))))))))))) (wFn 14 v_right) _) (by decide +kernel)
def v_law : VS := wSeq (wAsg (.nm 1) (vOp vAdd (vSlice (vV 0) vPartN (vPartS (vC (.int 6)))) (vOp vMul (vApp (vFN vLst) (vCons (vC (.int 0)) vNil)) (vApp (vFN vInt) (vCons (vOp vEq (vV 0) (vApp (vFN vLst) vNil)) vNil)))))
    (wSeq (wFor (.nm 2) (vRng1 (vApp (vFN vLen) (vCons (vV 1) vNil))) (wIf (vNot (vTru (vApp w_right (vCons (vApp w_jug (vCons (vOp vIx (vV 1) (vV 2)) (vCons (vV 2) vNil))) vNil)))) (wRet (vC (.bl false))) wPass))
    (wRet (vC (.bl true))))
def w_law : VFT := wFn 3 v_law
instance : SF f_law w_law (2 ^ 248) := SF.weak (inferInstance : SF (fnOf 3 (sSeq (sAsg (.nm 1) (mOp gAdd (mSlice (mV 0) (none) (some (mC (.int 6)))) (mOp gMul (mApp gLst (mCons (mC (.int 0)) (mNil))) (mApp gInt (mCons (mOp gEq (mV 0) (mApp gLst (mNil))) (mNil)))))) (sSeq (sFor (.nm 2) (mRng1 (mApp gLen (mCons (mV 1) (mNil)))) (sIf (mNot (mTru (mApp f_right (mCons (mApp f_jug (mCons (mOp gIx (mV 1) (mV 2)) (mCons (mV 2) (mNil)))) (mNil))))) (sRet (mC (.bl false))) (sPass))) (sRet (mC (.bl true)))))) (wFn 3 v_law) _) (by decide +kernel)
theorem law_of {ns : List Int} (q : w_law [.fro (ns.map U.int)] (fun u => u = .bl true) noE) : ∃ S, f_law [.fro (ns.map D.int)] [] = .ok (.bl true) S := SF.law (c := 2 ^ 248) inferInstance (by unfold KM; decide +kernel) q
end MI.K02

set_option Elab.async false
set_option linter.all false
set_option maxRecDepth 100000
set_option maxHeartbeats 400000
set_option exponentiation.threshold 100000
namespace MI.K02
open PySem PySem.Spec PyProof.Rows L2 MI
variable {Q : U → Prop} {E : Str → U → Prop}
/-! numbers and fractions -/
theorem q_is_integer_int {i : Int} : w_is_integer [.int i] Q E = Q (.bl true) := by
  simp [w_is_integer, wFn, v_is_integer]
theorem q_reduced {a : Int} {n : Nat} (h : 0 < n) (hl : n < 2 ^ 8999) : w_reduced [.int a, .int (n : Int)] Q E = Q (F (mkRat a n)) := by
  have g0 : 0 < Nat.gcd a.natAbs n := Nat.gcd_pos_of_pos_right _ h
  have gl : Nat.gcd a.natAbs n ≤ n := Nat.gcd_le_right _ h
  have hc : ∀ i, cDiv i (Nat.gcd a.natAbs n : Int) = true := fun i => cDiv_of (Int.natCast_ne_zero.mpr (Nat.ne_of_gt g0)) (by rw [Int.natAbs_natCast]; exact Nat.lt_of_le_of_lt gl hl)
  clear hl
  have h1 : ¬ (n : Int) < 0 := by omega
  simp [w_reduced, wFn, v_reduced, h1, xDiv (hc _), Int.fdiv_eq_ediv_of_nonneg, List.replicate]
  rw [← low_eq h]
theorem lt_le {a b c : Nat} (h : a ≤ b) (g : b < c) : a < c := Nat.lt_of_le_of_lt h g
theorem nc {n : Nat} {k : Nat} (h : n < 2 ^ k) : (n : Int).natAbs < 2 ^ k := by rw [Int.natAbs_natCast]; exact h
/-- fractions over one number -/
abbrev R (N : Nat) (z : Int) : U := F (mkRat z N)
theorem p2_mono {k m : Nat} (h : k ≤ m) : 2 ^ k ≤ 2 ^ m := Nat.pow_le_pow_right (by decide) h
theorem prod_lt {a b k m : Nat} (ha : a < 2 ^ k) (hb : b < 2 ^ m) : a * b < 2 ^ (k + m) := by rw [Nat.pow_add]; exact Nat.mul_lt_mul'' ha hb
theorem mk_add {N : Nat} (h : 0 < N) {a b : Int} : mkRat a N + mkRat b N = mkRat (a + b) N := by
  rw [Rat.mkRat_add_mkRat _ _ (by omega) (by omega)]
  refine mk_eq (Nat.mul_pos h h) h ?_
  rw [Int.natCast_mul, Int.add_mul, Int.add_mul, Int.mul_assoc, Int.mul_assoc]
theorem q_addF {p q : Rat} (h1 : p.num.natAbs < 2 ^ 8000) (h2 : q.num.natAbs < 2 ^ 8000) (h3 : p.den < 2 ^ 4000) (h4 : q.den < 2 ^ 4000) : w_added [F p, F q] Q E = Q (F (p + q)) := by
  unfold F
  have m1 := mulOk_of h1 (nc h4) (by decide)
  have m2 := mulOk_of h2 (nc h3) (by decide)
  have m3 := mulOk_of (nc h3) (nc h4) (by decide)
  simp only [w_added, wFn, List.map_cons, List.map_nil, List.length_cons, List.length_nil, Nat.reduceAdd, Nat.reduceSub, List.replicate, List.append_nil, v_added, sRet', xApp, xCons, xNil, xOp, xV0, xV1, xC, xIxT0, xIxT1, xMul m1, xMul m2, xMul m3, xAdd]
  rw [← Int.natCast_mul, q_reduced (Nat.mul_pos p.den_pos q.den_pos) (Nat.lt_trans (prod_lt h3 h4) (by decide +kernel)), ← Rat.add_def']
  rfl
theorem q_added {N : Nat} {a b : Int} (h : 0 < N) (hN : N < 2 ^ 4000) (ha : a.natAbs < 2 ^ 8000) (hb : b.natAbs < 2 ^ 8000) : w_added [R N a, R N b] Q E = Q (R N (a + b)) := by
  rw [q_addF (lt_le (num_le a N) ha) (lt_le (num_le b N) hb) (lt_le (den_le a h) hN) (lt_le (den_le b h) hN), mk_add h]
/-- a sum of so many -/
theorem sm_lt {f : Nat → Int} {n : Nat} {k : Nat} (hn : n ≤ 16) (h : ∀ i, i < n → (f i).natAbs < 2 ^ k) : (sm n f).natAbs < 2 ^ (k + 4) := by
  have h1 := sm_bd (f := f) (B := 2 ^ k - 1) (n := n) fun i hi => by have := h i hi; omega
  have h2 : n * (2 ^ k - 1) ≤ 16 * (2 ^ k - 1) := Nat.mul_le_mul_right _ hn
  have h3 : 0 < 2 ^ k := Nat.pow_pos (by decide)
  rw [Nat.pow_add]
  omega
theorem mk_zero {N : Nat} : F (mkRat 0 N) = .tup u_ZERO := by simp [F]
theorem q_total {N n : Nat} {f : Nat → Int} (h : 0 < N) (hN : N < 2 ^ 4000) (hn : n ≤ 16) (hf : ∀ i, i < n → (f i).natAbs < 2 ^ 4000) (Q : U → Prop) (E : Str → U → Prop) : w_total [.lst (vec n fun i => R N (f i))] Q E = Q (R N (sm n f)) := by
  simp only [w_total, wFn, List.map_cons, List.map_nil, List.length_cons, List.length_nil, Nat.reduceAdd, Nat.reduceSub, List.replicate, List.cons_append, List.nil_append, v_total, sSeq', sAsg', xC, asgN, List.set_cons_zero, List.set_cons_succ, sFor', xSrc, xV0, seqL, sRet', vec_len]
  rw [and_eq (by omega), ← mk_zero (N := N)]
  refine (forV_det (e := fun m o => [.va (.lst (vec n fun i => R N (f i))), .va (R N (sm m f)), o]) (fun m o u => rfl) (fun m hm K N2 => ?_) .un).trans (xV1 ..)
  have b1 : (sm m f).natAbs < 2 ^ 8000 := Nat.lt_of_lt_of_le (sm_lt (n := m) (by omega) fun i hi => hf i (by omega)) (p2_mono (by decide))
  have b2 : (f m).natAbs < 2 ^ 8000 := Nat.lt_of_lt_of_le (hf m (by omega)) (p2_mono (by decide))
  simp only [asgN, List.set_cons_zero, List.set_cons_succ, sAsg', xApp, xCons, xNil, xV1, xV2, q_added h hN b1 b2]
  rfl
theorem isTyF {q : Rat} {T : String} {Q : U → Prop} : vIsTy T (F q) Q = Q (.bl (isTy "tuple" T)) := id rfl
theorem lenF {q : Rat} {Q : U → Prop} : vLen [F q] Q = Q (.int 2) := id rfl
theorem ix0F {q : Rat} {Q : U → Prop} : vIx (F q) (.int 0) Q = Q (.int q.num) := xIxT0
theorem ix1F {q : Rat} {Q : U → Prop} : vIx (F q) (.int 1) Q = Q (.int q.den) := xIxT1
theorem q_is_fraction {q : Rat} : w_is_fraction [F q] Q E = Q (.bl true) := by
  have g : (Nat.gcd q.num.natAbs ((q.den : Int)).natAbs : Int) = 1 := by rw [Int.natAbs_natCast, q.reduced]; rfl
  have d := q.den_pos
  have d1 : (1 : Int) ≤ q.den := by omega
  simp only [w_is_fraction, wFn, List.map_cons, List.map_nil, List.length_cons, List.length_nil, Nat.reduceAdd, Nat.reduceSub, List.replicate, List.append_nil, v_is_fraction, sSeq', sIf', xOr, xNot, xTru, xUn, xV0, isTyF, ty1, xTr_bl, xTst, xOp, xApp, xCons, xNil, xFN, lenF, xC, xNeI, xB_bl, ix0F, ix1F, q_is_integer_int, sPass', sRet', xAndV, xGe, xGcd, xEqI, g]
  simp [d1]
theorem q_is_from_zero {q : Rat} : w_is_from_zero [F q] Q E = Q (.bl (decide (0 ≤ q.num))) := by
  simp only [w_is_from_zero, wFn, List.map_cons, List.map_nil, List.length_cons, List.length_nil, Nat.reduceAdd, Nat.reduceSub, List.replicate, List.append_nil, v_is_from_zero, sRet', xAndV, xApp, xCons, xNil, xV0, q_is_fraction, xB_bl, if_true, xOp, ix0F, xC, xGe, ge_iff_le]
theorem q_is_share {q : Rat} : w_is_share [F q] Q E = Q (.bl (decide (0 ≤ q.num ∧ q.num ≤ q.den))) := by
  simp only [w_is_share, wFn, List.map_cons, List.map_nil, List.length_cons, List.length_nil, Nat.reduceAdd, Nat.reduceSub, List.replicate, List.append_nil, v_is_share, sRet', xAndV, xApp, xCons, xNil, xV0, q_is_from_zero, xB_bl, xOp, ix0F, ix1F, xLe]
  by_cases h : 0 ≤ q.num
  · simp [h, ix0F, ix1F, xLe]
  · simp [h]
/-- tables -/
def tabF (n : Nat) (t : Nat → Nat → Rat) : U := .tup (vec n fun i => .tup (vec n fun j => F (t i j)))
theorem q_is_table_row {m n : Nat} {t : Nat → Rat} (hm : m < 1000) : w_is_table_row [.tup (vec m fun j => F (t j)), .int (n : Int)] Q E = Q (.bl (decide (m = n) && (List.range m).all fun j => decide (0 ≤ (t j).num))) := by
  simp only [w_is_table_row, wFn, List.map_cons, List.map_nil, List.length_cons, List.length_nil, Nat.reduceAdd, Nat.reduceSub, List.replicate, List.cons_append, List.nil_append, v_is_table_row, sRet', xAndV, xUn, xV0, xTyT, ty1, xB_bl, if_true, xOp, xApp, xCons, xNil, xFN, xLenT, vec_len, xV1, xEqI, xL, xLc, xSrc, seqT, wipe1, wipe0, List.set_cons_zero, List.set_cons_succ]
  by_cases h : m = n
  · subst h
    simp only [decide_true, if_true, Bool.true_and]
    rw [and_eq (by omega), lcV_vec (g := fun j => .bl (decide (0 ≤ (t j).num))) fun i hi Q => ?_, xAllV]
    simp only [List.set_cons_zero, List.set_cons_succ, xApp, xCons, xNil, xV2, q_is_from_zero]
  · have : ¬ ((m : Int) = n) := by omega
    simp [h, this]
end MI.K02

set_option Elab.async false
set_option linter.all false
set_option maxRecDepth 100000
set_option maxHeartbeats 400000
set_option exponentiation.threshold 100000
namespace MI.K02
open PySem PySem.Spec PyProof.Rows L2 MI
variable {Q : U → Prop} {E : Str → U → Prop}
/-- the environment of a call -/
theorem en {n : Nat} {w : VS} {us : List U} : wFn n w us Q E = w (us.map UO.va ++ List.replicate (n - us.length) .un) (fun _ => Q .non) Q (fun c u _ => E c u) (fun _ => False) (fun _ => False) := rfl
theorem ixV {n : Nat} {f : Nat → U} {i : Nat} {Q : U → Prop} (h : i < n) : vIx (.tup (vec n f)) (.int (i : Int)) Q = Q (f i) := xIxT (vec_get h)
theorem ixVL {n : Nat} {f : Nat → U} {i : Nat} {Q : U → Prop} (h : i < n) : vIx (.lst (vec n f)) (.int (i : Int)) Q = Q (f i) := xIxL (vec_get h)
theorem rng_len {n : Nat} {QL : List U → Prop} {x : Int} (hx : x = (n : Int)) (h : n < 1000000) : (small62 x = true ∧ QL (rngU 0 x.toNat)) = QL (vec n fun i => .int (i : Int)) := by
  subst hx
  rw [and_eq (small_nat (by omega)), Int.toNat_natCast, rngU_eq]
abbrev tabR (n N : Nat) (z : Nat → Nat → Int) : U := tabF n fun i j => mkRat (z i j) N
theorem q_column_sums {n N : Nat} {z : Nat → Nat → Int} (h : 0 < N) (hN : N < 2 ^ 4000) (hn : n ≤ 16) (hf : ∀ i j, i < n → j < n → (z i j).natAbs < 2 ^ 4000) : w_column_sums [tabR n N z] Q E = Q (.lst (vec n fun j => R N (sm n fun i => z i j))) := by
  simp only [w_column_sums, en, List.map_cons, List.map_nil, List.length_cons, List.length_nil, Nat.reduceAdd, Nat.reduceSub, List.replicate, List.cons_append, List.nil_append, v_column_sums, sRet', xBox, xLc, xRng1, xApp, xCons, xNil, xFN, xV0, tabR, tabF, xLenT, vec_len, wipe1, wipe0, List.set_cons_zero, List.set_cons_succ]
  rw [and_eq (small_nat (by omega)), Int.toNat_natCast, rngU_eq, vec_len, and_eq (by omega), lcV_vec (g := fun j => R N (sm n fun i => z i j)) fun j hj Q => ?_]
  simp only [List.set_cons_zero, List.set_cons_succ, xApp, xCons, xNil, xBox, xLc, xSrc, xV0, seqT, vec_len, wipe1, wipe0]
  rw [and_eq (by omega), lcV_vec (g := fun i => R N (z i j)) fun i hi Q => ?_, q_total h hN hn fun i hi => hf i j hi hj]
  simp only [List.set_cons_zero, List.set_cons_succ, xOp, xV1, xV2]
  rw [ixV hj]
theorem q_is_table_bad {n : Nat} {f : Nat → U} {b : Nat → Bool} {i : Nat} (hn : 1 ≤ n ∧ n ≤ 8) (h : ∀ i, i < n → ∀ Q E, w_is_table_row [f i, .int (n : Int)] Q E = Q (.bl (b i))) (hi : i < n) (hb : b i = false) : w_is_table [.tup (vec n f)] Q E = Q (.bl false) := by
  have h1 : (1 : Int) ≤ n := by omega
  have h2 : (n : Int) ≤ 8 := by omega
  simp only [w_is_table, en, List.map_cons, List.map_nil, List.length_cons, List.length_nil, Nat.reduceAdd, Nat.reduceSub, List.replicate, List.cons_append, List.nil_append, v_is_table, sSeq', sIf', xOr, xNot, xTru, xUn, xV0, xTyT, ty1, xTr_bl, xTst, xChain, xC, xApp, xCons, xNil, xFN, xLenT, vec_len, xLe, xB_bl, h1, h2, decide_true, if_true, Bool.not_true, Bool.false_eq_true, if_false, sPass', xL, xLc, xSrc, seqT, wipe1, wipe0, List.set_cons_zero, List.set_cons_succ]
  rw [and_eq (by omega), lcV_vec (g := fun i => .bl (b i)) fun i hi Q => ?_, xAllV, all_false hi hb]
  · simp only [xTr_bl, Bool.not_false, if_true, sRet', xC]
  · simp only [List.set_cons_zero, List.set_cons_succ, xApp, xCons, xNil, xV0, xV1, xFN, xLenT, vec_len, h i hi]
theorem q_is_table {n N : Nat} {z : Nat → Nat → Int} (hn : 1 ≤ n ∧ n ≤ 8) (h : 0 < N) (hN : N < 2 ^ 4000) (hf : ∀ i j, i < n → j < n → (z i j).natAbs < 2 ^ 4000) (h0 : ∀ i j, i < n → j < n → 0 ≤ z i j) : w_is_table [tabR n N z] Q E = Q (.bl ((List.range n).all fun j => decide (sm n (fun i => z i j) ≤ N))) := by
  have h1 : (1 : Int) ≤ n := by omega
  have h2 : (n : Int) ≤ 8 := by omega
  have e0 : tabR n N z = .tup (vec n fun i => .tup (vec n fun j => R N (z i j))) := rfl
  simp only [w_is_table, en, List.map_cons, List.map_nil, List.length_cons, List.length_nil, Nat.reduceAdd, Nat.reduceSub, List.replicate, List.cons_append, List.nil_append, v_is_table, sSeq', sIf', xOr, xNot, xTru, xUn, xV0, e0, xTyT, ty1, xTr_bl, xTst, xChain, xC, xApp, xCons, xNil, xFN, xLenT, vec_len, xLe, xB_bl, h1, h2, decide_true, if_true, Bool.not_true, Bool.false_eq_true, if_false, sPass', xL, xLc, xSrc, seqT, wipe1, wipe0, List.set_cons_zero, List.set_cons_succ]
  rw [and_eq (by omega), lcV_vec (g := fun i => .bl true) fun i hi Q => ?_, xAllV, all_true fun _ _ => rfl]
  · simp only [xTr_bl, Bool.not_true, Bool.false_eq_true, if_false, sPass', sRet', xL, xLc, xSrc, xApp, xCons, xNil, xV0]
    rw [← e0, q_column_sums h hN (by omega) hf]
    simp only [seqL, vec_len, wipe1, wipe0, List.set_cons_zero, List.set_cons_succ]
    rw [and_eq (by omega), lcV_vec (g := fun j => .bl (decide (sm n (fun i => z i j) ≤ N))) fun j hj Q => ?_, xAllV]
    simp only [List.set_cons_zero, List.set_cons_succ, xApp, xCons, xNil, xV2, q_is_share, num_sign h, num_le_den h]
    have : 0 ≤ sm n fun i => z i j := sm_nonneg fun i hi => h0 i j hi hj
    simp [this]
  · simp only [List.set_cons_zero, List.set_cons_succ, xApp, xCons, xNil, xV0, xV1, xFN, xLenT, vec_len]
    rw [q_is_table_row (by omega), all_true fun j hj => by simpa [num_sign h] using h0 i j hi hj]
    simp
/-! built anew: the same -/
def atomU : U → Prop
  | .int _ | .bl _ | .non | .str _ => True
  | _ => False
def dep : Nat → U → Prop
  | 0, u => atomU u
  | k + 1, .tup us => us.length < 16000000 ∧ ∀ x ∈ us, dep k x
  | k + 1, .lst us => us.length < 16000000 ∧ ∀ x ∈ us, dep k x
  | k + 1, u => atomU u
theorem map_id' {l : List U} {g : U → U} (h : ∀ x ∈ l, g x = x) : l.map g = l := by
  induction l with
  | nil => rfl
  | cons a l ih => rw [List.map_cons, h a List.mem_cons_self, ih fun x hx => h x (List.mem_cons_of_mem _ hx)]
theorem q_built : ∀ (k : Nat) (u : U) (Q : U → Prop) (E : Str → U → Prop), dep k u → w_built_anew (k + 1) [u] Q E = Q u := by
  have atom : ∀ (k : Nat) (u : U) (Q : U → Prop) (E : Str → U → Prop), atomU u → w_built_anew (k + 1) [u] Q E = Q u := by
    intro k u Q E h
    cases u with
    | int i => simp [w_built_anew, wFn, v_built_anew, List.replicate]
    | bl i => simp [w_built_anew, wFn, v_built_anew, List.replicate]
    | str i => simp [w_built_anew, wFn, v_built_anew, List.replicate]
    | non => simp [w_built_anew, wFn, v_built_anew, List.replicate]
    | _ => exact h.elim
  intro k
  induction k with
  | zero => intro u Q E h; exact atom 0 u Q E h
  | succ k ih =>
    intro u Q E h
    cases u with
    | tup us =>
      simp only [w_built_anew, en, List.map_cons, List.map_nil, List.length_cons, List.length_nil, Nat.reduceAdd, Nat.reduceSub, List.replicate, List.cons_append, List.nil_append, v_built_anew, sSeq', sIf', xTru, xUn, xV0, xTyT, ty1, ty12, xTr_bl, Bool.false_eq_true, if_false, if_true, sPass', sRet', xL, xLc, xSrc, seqT, wipe1, wipe0, List.set_cons_zero, List.set_cons_succ, xTupL]
      rw [and_eq h.1, lcV_map (g := id) us fun x hx Q => ?_, List.map_id]
      simp only [List.set_cons_zero, List.set_cons_succ, xApp, xCons, xNil, xV1]
      exact ih x Q noE (h.2 x hx)
    | lst us =>
      simp only [w_built_anew, en, List.map_cons, List.map_nil, List.length_cons, List.length_nil, Nat.reduceAdd, Nat.reduceSub, List.replicate, List.cons_append, List.nil_append, v_built_anew, sSeq', sIf', xTru, xUn, xV0, xTyL, ty2, xTr_bl, Bool.false_eq_true, if_false, if_true, sPass', sRet', xBox, xLc, xSrc, seqL, wipe1, wipe0, List.set_cons_zero, List.set_cons_succ]
      rw [and_eq h.1, lcV_map (g := id) us fun x hx Q => ?_, List.map_id]
      simp only [List.set_cons_zero, List.set_cons_succ, xApp, xCons, xNil, xV1]
      exact ih x Q noE (h.2 x hx)
    | _ => exact atom _ _ Q E h
theorem q_check_bad {u : U} (h : ∀ Q E, w_is_table [u] Q E = Q (.bl false)) (hd : dep 7 u) : w_check_table [u] Q E = E "InvalidTable" u := by
  simp only [w_check_table, en, List.map_cons, List.map_nil, List.length_cons, List.length_nil, Nat.reduceAdd, Nat.reduceSub, List.replicate, List.append_nil, v_check_table, sIf', xNot, xTru, xApp, xCons, xNil, xV0, h, xTr_bl, Bool.not_false, if_true, sRaise']
  exact q_built 7 u _ _ hd
theorem q_check_good {u : U} (h : ∀ Q E, w_is_table [u] Q E = Q (.bl true)) : w_check_table [u] Q E = Q .non := by
  simp only [w_check_table, en, List.map_cons, List.map_nil, List.length_cons, List.length_nil, Nat.reduceAdd, Nat.reduceSub, List.replicate, List.append_nil, v_check_table, sIf', xNot, xTru, xApp, xCons, xNil, xV0, h, xTr_bl, Bool.not_true, Bool.false_eq_true, if_false, sPass']
/-! grids -/
def grid (n : Nat) (z : Nat → Nat → Int) (N : Nat) : U := .tup [.lst (vec n fun i => .lst (vec n fun j => .int (z i j))), .int (N : Int)]
theorem q_rows_of {n N : Nat} {z : Nat → Nat → Int} (hn : n ≤ 16) (h : 0 < N) (hN : N < 2 ^ 8999) : w_rows_of [grid n z N] Q E = Q (tabR n N z) := by
  simp only [w_rows_of, en, List.map_cons, List.map_nil, List.length_cons, List.length_nil, Nat.reduceAdd, Nat.reduceSub, List.replicate, List.cons_append, List.nil_append, v_rows_of, grid, sSeq', sAsg', xV0, asgT2, List.set_cons_zero, List.set_cons_succ, sRet', xL, xLc, xSrc, xV1, seqL, vec_len, wipe1, wipe0, xTupL]
  rw [and_eq (by omega), lcV_vec (g := fun i => .tup (vec n fun j => R N (z i j))) fun i hi Q => ?_]
  · rfl
  · simp only [List.set_cons_zero, List.set_cons_succ, xL, xLc, xSrc, xV4, seqL, vec_len, wipe1, wipe0, xTupL]
    rw [and_eq (by omega), lcV_vec (g := fun j => R N (z i j)) fun j hj Q => ?_]
    simp only [List.set_cons_zero, List.set_cons_succ, xApp, xCons, xNil, xV3, xV2]
    rw [q_reduced h hN]
theorem q_still_grid {n : Nat} (hn : n ≤ 16) : w_still_grid [.int (n : Int)] Q E = Q (grid n (fun i j => if i = j then 1 else 0) 1) := by
  simp only [w_still_grid, en, List.map_cons, List.map_nil, List.length_cons, List.length_nil, Nat.reduceAdd, Nat.reduceSub, List.replicate, List.cons_append, List.nil_append, v_still_grid, grid, sRet', xApp, xCons, xNil, xFN, xBox, xLc, xRng1, xV0, wipe1, wipe0, List.set_cons_zero, List.set_cons_succ, xC]
  rw [and_eq (small_nat (by omega)), Int.toNat_natCast, rngU_eq, vec_len, and_eq (by omega), lcV_vec (g := fun i => .lst (vec n fun j => .int (if i = j then 1 else 0))) fun i hi Q => ?_]
  · rw [xTup2]; rfl
  · simp only [List.set_cons_zero, List.set_cons_succ, xBox, xLc, xRng1, xV0, wipe1, wipe0]
    rw [and_eq (small_nat (by omega)), Int.toNat_natCast, rngU_eq, vec_len, and_eq (by omega), lcV_vec (g := fun j => .int (if i = j then 1 else 0)) fun j hj Q => ?_]
    simp only [List.set_cons_zero, List.set_cons_succ, xIfU, xTst, xOp, xV1, xV2, xEqI, xB_bl, xC]
    by_cases hij : i = j
    · subst hij; simp
    · have : ¬ ((i : Int) = j) := by omega
      simp [hij, this]
theorem q_product {n N M B : Nat} {y z : Nat → Nat → Int} (hn : n ≤ 16) (h1 : 1 ≤ n) (hy : ∀ i j, i < n → j < n → (y i j).natAbs < 2 ^ B) (hz : ∀ i j, i < n → j < n → (z i j).natAbs < 2 ^ B) (hB : 0 < B) (hB2 : B ≤ 1000000) (hN : N < 2 ^ B) (hM : M < 2 ^ B) :
    w_product_of [grid n y N, grid n z M] Q E = Q (grid n (fun i j => sm n fun k => y i k * z k j) (N * M)) := by
  have mo : ∀ {a b : Int}, a.natAbs < 2 ^ B → b.natAbs < 2 ^ B → mulOk a b = true := fun ha hb => mulOk_of ha hb (by omega) hB hB
  have g0 : ∀ Q : U → Prop, vIx (.lst (vec n fun i => .lst (vec n fun j => .int (z i j)))) (.int 0) Q = Q (.lst (vec n fun j => .int (z 0 j))) := fun Q => ixVL (i := 0) (by omega)
  simp only [w_product_of, en, List.map_cons, List.map_nil, List.length_cons, List.length_nil, Nat.reduceAdd, Nat.reduceSub, List.replicate, List.cons_append, List.nil_append, v_product_of, grid, sSeq', sAsg', xBox, xLc, xRng1, xApp, xCons, xNil, xFN, xOp, xV0, xV1, xC, xIxT0, xIxT1, g0, xLenL, vec_len, wipe1, wipe0, List.set_cons_zero, List.set_cons_succ, asgN, sRet']
  rw [and_eq (small_nat (by omega)), Int.toNat_natCast, rngU_eq, vec_len, and_eq (by omega), lcV_vec (g := fun j => .lst (vec n fun k => .int (z k j))) fun j hj Q => ?_]
  · simp only [xSrc, xOp, xV0, xC, xIxT0, seqL, vec_len, wipe1, wipe0, List.set_cons_zero, List.set_cons_succ, xV2, xV5, xMul (mo (nc hN) (nc hM))]
    rw [and_eq (by omega), lcV_vec (g := fun i => .lst (vec n fun j => .int (sm n fun k => y i k * z k j))) fun i hi Q => ?_]
    · rw [xTup2, Int.natCast_mul]
    · simp only [List.set_cons_zero, List.set_cons_succ, xBox, xLc, xSrc, xV2, xV3, seqL, vec_len, wipe1, wipe0]
      rw [and_eq (by omega), lcV_vec (g := fun j => .int (sm n fun k => y i k * z k j)) fun j hj Q => ?_]
      simp only [List.set_cons_zero, List.set_cons_succ, xL, xLc, xZip, xV3, xV8, wipe1, wipe0]
      rw [and_eq (by unfold zipU; rw [vec_zip, vec_len]; omega), lcV_zip (g := fun k => .int (y i k * z k j)) fun k hk Q => ?_, xSumV]
      simp only [List.set_cons_zero, List.set_cons_succ, xOp, xV6, xV7, xMul (mo (hy i k hi hk) (hz k j hk hj))]
  · simp only [List.set_cons_zero, List.set_cons_succ, xBox, xLc, xSrc, xOp, xV1, xC, xIxT0, seqL, vec_len, wipe1, wipe0]
    rw [and_eq (by omega), lcV_vec (g := fun k => .int (z k j)) fun k hk Q => ?_]
    simp only [List.set_cons_zero, List.set_cons_succ, xOp, xV3, xV4]
    rw [ixVL hj]
end MI.K02

set_option Elab.async false
set_option linter.all false
set_option maxRecDepth 100000
set_option maxHeartbeats 400000
set_option exponentiation.threshold 100000
namespace MI.K02
open PySem PySem.Spec PyProof.Rows L2 MI
variable {Q : U → Prop} {E : Str → U → Prop}
/-! one number below for all -/
def lcmR (N : Nat) (c : Nat → Int) : Nat → Nat
  | 0 => 1
  | m + 1 => Nat.lcm (lcmR N c m) (mkRat (c m) N).den
theorem lcmR_dvd {N : Nat} {c : Nat → Int} (h : 0 < N) : ∀ m, lcmR N c m ∣ N
  | 0 => Nat.one_dvd _
  | m + 1 => Nat.lcm_dvd (lcmR_dvd h m) (den_dvd _ h)
theorem dvd_lcmR {N : Nat} {c : Nat → Int} {k : Nat} : ∀ m, k < m → (mkRat (c k) N).den ∣ lcmR N c m
  | m + 1, h => by
    by_cases hk : k = m
    · subst hk; exact Nat.dvd_lcm_right _ _
    · exact Nat.dvd_trans (dvd_lcmR m (by omega)) (Nat.dvd_lcm_left _ _)
theorem q_common {N m : Nat} {c : Nat → Int} (h : 0 < N) (hN : N < 2 ^ 4000) (hm : m < 100000) (hc : ∀ k, k < m → (c k).natAbs < 2 ^ 8000) : ∃ (L K : Nat) (y : Nat → Int), N = L * K ∧ 0 < L ∧ 0 < K ∧ (∀ k, k < m → c k = y k * K) ∧ ∀ (Q : U → Prop) (E : Str → U → Prop), w_common [.lst (vec m fun k => R N (c k))] Q E = Q (.tup [.lst (vec m fun k => .int (y k)), .int (L : Int)]) := by
  obtain ⟨K, hK⟩ := lcmR_dvd (c := c) h m
  have L0 : 0 < lcmR N c m := Nat.pos_of_dvd_of_pos (lcmR_dvd h m) h
  have K0 : 0 < K := Nat.pos_of_ne_zero fun z => by subst z; omega
  refine ⟨lcmR N c m, K, fun k => (mkRat (c k) N).num * ((lcmR N c m : Int) / (mkRat (c k) N).den), hK, L0, K0, fun k hk => ?_, fun Q E => ?_⟩
  · have e := mk_self_num h (c k)
    have d0 := (mkRat (c k) N).den_pos
    obtain ⟨r, hr⟩ := dvd_lcmR (N := N) (c := c) m hk
    have e2 : (lcmR N c m : Int) / (mkRat (c k) N).den = r := by
      rw [hr, Int.natCast_mul, Int.mul_ediv_cancel_left _ (by omega)]
    show c k = (mkRat (c k) N).num * ((lcmR N c m : Int) / (mkRat (c k) N).den) * K
    rw [e2]
    have e3 : (N : Int) = (mkRat (c k) N).den * (r * K) := by
      rw [← Int.mul_assoc, ← Int.natCast_mul, ← hr, ← Int.natCast_mul, ← hK]
    have e4 : c k * (mkRat (c k) N).den = ((mkRat (c k) N).num * r * K) * (mkRat (c k) N).den := by
      rw [← e]
      conv => lhs; rw [e3]
      rw [Int.mul_comm ((mkRat (c k) N).den : Int), Int.mul_assoc, Int.mul_assoc, Int.mul_assoc]
    exact Int.eq_of_mul_eq_mul_right (by omega) e4
  · have lN : ∀ i, lcmR N c i < 2 ^ 4000 := fun i => lt_le (Nat.le_of_dvd h (lcmR_dvd h i)) hN
    have l0 : ∀ i, 0 < lcmR N c i := fun i => Nat.pos_of_dvd_of_pos (lcmR_dvd h i) h
    simp only [w_common, en, List.map_cons, List.map_nil, List.length_cons, List.length_nil, Nat.reduceAdd, Nat.reduceSub, List.replicate, List.cons_append, List.nil_append, v_common, sSeq', sAsg', xC, asgN, List.set_cons_zero, List.set_cons_succ, sFor', xSrc, xV0, seqL, vec_len]
    rw [and_eq (by omega)]
    refine (forV_det (e := fun i o => [.va (.lst (vec m fun k => R N (c k))), .va (.int (lcmR N c i)), o]) (fun m o u => rfl) (fun i hi K N2 => ?_) .un).trans ?_
    · have cl : cLcm (lcmR N c i : Int) ((mkRat (c i) N).den : Int) = true := by
        have h1 := log2_lt (lN i) (by decide)
        have h2 := log2_lt (lt_le (den_le (c i) h) hN) (by decide)
        have h3 := log2_lt (lN (i + 1)) (by decide)
        unfold cLcm
        rw [Int.natAbs_natCast, Int.natAbs_natCast]
        unfold lcmR at h3
        have : bitsLine > 5000 := by decide
        simp
        omega
      simp only [sAsg', xApp, xCons, xNil, xFN, xV1, xV2, xOp, ix1F, xC, xLcm cl, asgN, List.set_cons_zero, List.set_cons_succ, Int.natAbs_natCast]
      rfl
    · simp only [sRet', xApp, xCons, xNil, xFN, xBox, xLc, xSrc, xV0, xV1, seqL, vec_len, wipe1, wipe0, List.set_cons_zero, List.set_cons_succ]
      rw [and_eq (by omega), lcV_vec (g := fun k => .int ((mkRat (c k) N).num * ((lcmR N c m : Int) / (mkRat (c k) N).den))) fun k hk Q => ?_, xTup2]
      have d0 := (mkRat (c k) N).den_pos
      have cd : ∀ i, cDiv i ((mkRat (c k) N).den : Int) = true := fun i => cDiv_of (by omega) (by rw [Int.natAbs_natCast]; exact Nat.lt_trans (lt_le (den_le (c k) h) hN) (by decide +kernel))
      have mo : mulOk (mkRat (c k) N).num ((lcmR N c m : Int) / (mkRat (c k) N).den) = true := mulOk_of (lt_le (num_le _ _) (hc k hk)) (lt_le (Int.natAbs_ediv_le_natAbs _ _) (nc (lN m))) (by decide)
      simp only [List.set_cons_zero, List.set_cons_succ, xOp, xV2, xC, ix0F, ix1F, xV1, xDiv (cd _), Int.fdiv_eq_ediv_of_nonneg _ (Int.natCast_nonneg _), xMul mo]
theorem small_of {n : Nat} (h : 1 ≤ n ∧ n ≤ 8) : Builtin.Range.small 0 ((n * n : Nat) : Int) n = true := by
  obtain ⟨h1, h2⟩ := h
  have : n = 1 ∨ n = 2 ∨ n = 3 ∨ n = 4 ∨ n = 5 ∨ n = 6 ∨ n = 7 ∨ n = 8 := by omega
  rcases this with rfl | rfl | rfl | rfl | rfl | rfl | rfl | rfl <;> decide
theorem q_grid_of {N n : Nat} {z : Nat → Nat → Int} (hn : 1 ≤ n ∧ n ≤ 8) (h : 0 < N) (hN : N < 2 ^ 4000) (hz : ∀ i j, i < n → j < n → (z i j).natAbs < 2 ^ 8000) : ∃ (L K : Nat) (y : Nat → Nat → Int), N = L * K ∧ 0 < L ∧ 0 < K ∧ (∀ i j, i < n → j < n → z i j = y i j * K) ∧ ∀ (Q : U → Prop) (E : Str → U → Prop), w_grid_of [tabR n N z] Q E = Q (grid n y L) := by
  have n64 : n * n ≤ 8 * 8 := Nat.mul_le_mul hn.2 hn.2
  have dv : ∀ k, k < n * n → k / n < n ∧ k % n < n := fun k hk => ⟨Nat.div_lt_of_lt_mul hk, Nat.mod_lt _ (by omega)⟩
  obtain ⟨L, K, y, e1, L0, K0, e2, e3⟩ := q_common (N := N) (m := n * n) (c := fun k => z (k / n) (k % n)) h hN (by omega) fun k hk => hz _ _ (dv k hk).1 (dv k hk).2
  refine ⟨L, K, fun i j => y (i * n + j), e1, L0, K0, fun i j hi hj => ?_, fun Q E => ?_⟩
  · have lt : i * n + j < n * n := by
      have := Nat.mul_le_mul_right n (show i + 1 ≤ n by omega)
      rw [Nat.succ_mul] at this
      omega
    have := e2 (i * n + j) lt
    rw [Nat.mul_comm i n, Nat.mul_add_div (by omega), Nat.div_eq_of_lt hj, Nat.mul_add_mod, Nat.mod_eq_of_lt hj, Nat.add_zero] at this
    rw [this]
    show _ = y (i * n + j) * K
    rw [Nat.mul_comm i n]
  · have i0 : ∀ Q : U → Prop, vIx (.tup (vec n fun i => .tup (vec n fun j => R N (z i j)))) (.int 0) Q = Q (.tup (vec n fun j => R N (z 0 j))) := fun Q => ixV (i := 0) (by omega)
    simp only [w_grid_of, en, List.map_cons, List.map_nil, List.length_cons, List.length_nil, Nat.reduceAdd, Nat.reduceSub, List.replicate, List.cons_append, List.nil_append, v_grid_of, tabR, tabF, sSeq', sAsg', xApp, xCons, xNil, xFN, xOp, xV0, xC, i0, xLenT, vec_len, asgN, List.set_cons_zero, List.set_cons_succ, xBox, xLc2, xSrc, seqT, wipe1, wipe0]
    rw [and_eq (by omega), lcV2_vec (g := fun i => vec n fun j => R N (z i j)) fun i hi Q => ?_]
    · rw [vec_flat (f := fun i j => R N (z i j)) (by omega), vec_len, and_eq (by omega), e3]
      simp only [asgT2, List.set_cons_zero, List.set_cons_succ, sRet', xApp, xCons, xNil, xFN, xBox, xLc, xRng3, xC, xV2, xV1, xV3, xLenL, vec_len, wipe1, wipe0]
      rw [and_eq ⟨⟨by omega, by omega⟩, small_of hn, by rw [range_size (by omega) n (by omega)]; omega⟩, range_size (by omega) n (by omega), Int.toNat_natCast, rngC_vec, vec_len, and_eq (by omega), lcV_vec (g := fun i => .lst (vec n fun j => .int (y (i * n + j)))) fun i hi Q => ?_, xTup2]
      · rfl
      · have lt : i * n + n ≤ n * n := by
          have := Nat.mul_le_mul_right n (show i + 1 ≤ n by omega)
          rw [Nat.succ_mul] at this
          omega
        simp only [List.set_cons_zero, List.set_cons_succ, xSlice, xV2, xPartS, xV6, xOp, xV1, xAdd]
        rw [← Int.natCast_add, cut_nat (by rw [vec_len]; exact lt) (by omega), Nat.add_sub_cancel_left, vec_cut lt]
    · unfold innV
      simp only [xSrc, List.set_cons_zero, List.set_cons_succ, xV4, seqT, vec_len, wipe1, wipe0]
      rw [and_eq (by omega), lcV_vec (g := fun j => R N (z i j)) fun j hj Q => ?_]
      simp only [List.set_cons_zero, List.set_cons_succ, xV5]
end MI.K02

set_option Elab.async false
set_option linter.all false
set_option maxRecDepth 100000
set_option maxHeartbeats 400000
set_option exponentiation.threshold 100000
namespace MI.K02
open PySem PySem.Spec PyProof.Rows L2 MI
variable {Q : U → Prop} {E : Str → U → Prop}
/-! tables that are tables -/
structure Tb (n N : Nat) (z : Nat → Nat → Int) : Prop where
  hn : 1 ≤ n ∧ n ≤ 8
  pos : 0 < N
  lt : N < 2 ^ 400
  zero : ∀ i j, i < n → j < n → 0 ≤ z i j
  col : ∀ j, j < n → sm n (fun i => z i j) ≤ N
theorem sm_mem {f : Nat → Int} : ∀ {n : Nat} {i : Nat}, (∀ i, i < n → 0 ≤ f i) → i < n → f i ≤ sm n f
  | n + 1, i, h, hi => by
    unfold sm
    by_cases e : i = n
    · subst e
      have := sm_nonneg (n := i) (f := f) fun k hk => h k (by omega)
      omega
    · have h1 := sm_mem (n := n) (i := i) (f := f) (fun k hk => h k (by omega)) (by omega)
      have h2 := h n (by omega)
      omega
section
variable {n N : Nat} {z : Nat → Nat → Int}
theorem Tb.le (t : Tb n N z) {i j : Nat} (hi : i < n) (hj : j < n) : z i j ≤ N := Int.le_trans (sm_mem (f := fun i => z i j) (fun k hk => t.zero k j hk hj) hi) (t.col j hj)
theorem Tb.nat (t : Tb n N z) {i j : Nat} (hi : i < n) (hj : j < n) : (z i j).natAbs < 2 ^ 400 := by
  have h1 := t.le hi hj
  have h2 := t.zero i j hi hj
  have h3 := t.lt
  refine Nat.lt_of_le_of_lt ?_ h3
  clear h3
  omega
theorem Tb.is (t : Tb n N z) (Q : U → Prop) (E : Str → U → Prop) : w_is_table [tabR n N z] Q E = Q (.bl true) := by
  rw [q_is_table t.hn t.pos (Nat.lt_of_lt_of_le t.lt (p2_mono (by decide))) (fun i j hi hj => Nat.lt_of_lt_of_le (t.nat hi hj) (p2_mono (by decide))) t.zero, all_true fun j hj => by simpa using t.col j hj]
theorem Tb.check (t : Tb n N z) : w_check_table [tabR n N z] Q E = Q .non := q_check_good t.is
theorem Tb.grid (t : Tb n N z) : ∃ (L K : Nat) (y : Nat → Nat → Int), N = L * K ∧ 0 < L ∧ 0 < K ∧ (∀ i j, i < n → j < n → z i j = y i j * K) ∧ ∀ (Q : U → Prop) (E : Str → U → Prop), w_grid_of [tabR n N z] Q E = Q (MI.K02.grid n y L) := q_grid_of t.hn t.pos (Nat.lt_of_lt_of_le t.lt (p2_mono (by decide))) fun i j hi hj => Nat.lt_of_lt_of_le (t.nat hi hj) (p2_mono (by decide))
end
theorem tab_congr {n N M : Nat} {y z : Nat → Nat → Int} (h : ∀ i j, i < n → j < n → mkRat (y i j) N = mkRat (z i j) M) : tabR n N y = tabR n M z := by
  unfold tabR tabF
  congr 1
  refine vec_congr fun i hi => ?_
  congr 1
  exact vec_congr fun j hj => by
    show F (mkRat (y i j) N) = F (mkRat (z i j) M)
    rw [h i j hi hj]
theorem grid_congr {n N : Nat} {y z : Nat → Nat → Int} (h : ∀ i j, i < n → j < n → y i j = z i j) : grid n y N = grid n z N := by
  unfold grid
  rw [vec_congr (g := fun i => .lst (vec n fun j => .int (z i j))) fun i hi => ?_]
  congr 1
  exact vec_congr fun j hj => by rw [h i j hi hj]
theorem part_lt {y z : Int} {K B : Nat} (h : z = y * K) (hK : 0 < K) (hz : z.natAbs < 2 ^ B) : y.natAbs < 2 ^ B := by
  refine Nat.lt_of_le_of_lt ?_ hz
  rw [h, Int.natAbs_mul, Int.natAbs_natCast]
  exact Nat.le_mul_of_pos_right _ hK
theorem len_tab {n N : Nat} {z : Nat → Nat → Int} {Q : U → Prop} : vLen [tabR n N z] Q = Q (.int n) := by
  show Q (.int ((vec n _).length : Nat)) = _
  rw [vec_len]
def mul (n : Nat) (y z : Nat → Nat → Int) : Nat → Nat → Int := fun i j => sm n fun k => y i k * z k j
theorem q_behind {n N M : Nat} {y z : Nat → Nat → Int} (s : Tb n N z) (t : Tb n M y) : w_behind [tabR n N z, tabR n M y] Q E = Q (tabR n (M * N) (mul n y z)) := by
  obtain ⟨L1, K1, z', e1, L10, K10, hz, g1⟩ := s.grid
  obtain ⟨L2, K2, y', e2, L20, K20, hy, g2⟩ := t.grid
  have l1 : L1 < 2 ^ 400 := lt_le (by rw [e1]; exact Nat.le_mul_of_pos_right _ K10) s.lt
  have l2 : L2 < 2 ^ 400 := lt_le (by rw [e2]; exact Nat.le_mul_of_pos_right _ K20) t.lt
  simp only [w_behind, en, List.map_cons, List.map_nil, List.length_cons, List.length_nil, Nat.reduceAdd, Nat.reduceSub, List.replicate, List.cons_append, List.nil_append, List.append_nil, v_behind, sSeq', sExpr', xApp, xCons, xNil, xV0, xV1, s.check, t.check, sIf', xTst, xOp, xFN, len_tab, xNeI, xB_bl, decide_true, Bool.not_true, Bool.false_eq_true, if_false, sPass', sRet', g1, g2]
  rw [q_product (B := 400) (by have := s.hn; omega) s.hn.1 (fun i j hi hj => part_lt (hy i j hi hj) K20 (t.nat hi hj)) (fun i j hi hj => part_lt (hz i j hi hj) K10 (s.nat hi hj)) (by decide) (by decide) l2 l1]
  rw [q_rows_of (by have := s.hn; omega) (Nat.mul_pos L20 L10) (Nat.lt_trans (prod_lt l2 l1) (by decide +kernel))]
  congr 1
  refine tab_congr fun i j hi hj => ?_
  have e : mul n y z i j = (sm n fun k => y' i k * z' k j) * ((K2 * K1 : Nat) : Int) := by
    unfold mul
    rw [← sm_mulr]
    refine sm_congr fun k hk => ?_
    rw [hy i k hi hk, hz k j hk hj, Int.natCast_mul]
    rw [Int.mul_assoc, Int.mul_assoc, Int.mul_left_comm (K2 : Int)]
  rw [e, show M * N = (L2 * L1) * (K2 * K1) by rw [e1, e2, Nat.mul_assoc, Nat.mul_assoc, Nat.mul_left_comm K2]]
  exact (mk_cancel (Nat.mul_pos K20 K10)).symm
theorem q_behind_unlike {n m N M : Nat} {y z : Nat → Nat → Int} (s : Tb n N z) (t : Tb m M y) (h : n ≠ m) : w_behind [tabR n N z, tabR m M y] Q E = E "Unlike" (.int m) := by
  have : ¬ (n : Int) = m := by omega
  simp only [w_behind, en, List.map_cons, List.map_nil, List.length_cons, List.length_nil, Nat.reduceAdd, Nat.reduceSub, List.replicate, List.cons_append, List.nil_append, List.append_nil, v_behind, sSeq', sExpr', xApp, xCons, xNil, xV0, xV1, s.check, t.check, sIf', xTst, xOp, xFN, len_tab, xNeI, xB_bl, this, decide_false, Bool.not_false, if_true, sRaise']
/-! powers -/
def one (i j : Nat) : Int := if i = j then 1 else 0
def mpow (n : Nat) (z : Nat → Nat → Int) : Nat → Nat → Nat → Int
  | 0 => one
  | r + 1 => mul n z (mpow n z r)
theorem sm_one {n i : Nat} {f : Nat → Int} (h : i < n) : sm n (fun k => one i k * f k) = f i := by
  induction n with
  | zero => omega
  | succ n ih =>
    unfold sm
    by_cases e : i = n
    · subst e
      have : sm i (fun k => one i k * f k) = 0 := by
        rw [← sm_zero (n := i)]
        exact sm_congr fun k hk => by unfold one; rw [if_neg (by omega)]; simp
      rw [this]
      simp [one]
    · rw [ih (by omega)]
      unfold one
      rw [if_neg e]
      simp
theorem one_mul {n : Nat} {z : Nat → Nat → Int} {i j : Nat} (hi : i < n) : mul n one z i j = z i j := sm_one (f := fun k => z k j) hi
theorem mul_assoc' {n : Nat} {x y z : Nat → Nat → Int} {i j : Nat} : mul n (mul n x y) z i j = mul n x (mul n y z) i j := by
  unfold mul
  have e1 : (sm n fun k => (sm n fun l => x i l * y l k) * z k j) = sm n fun k => sm n fun l => x i l * y l k * z k j := sm_congr fun k _ => sm_mulr.symm
  have e2 : (sm n fun l => x i l * sm n fun k => y l k * z k j) = sm n fun l => sm n fun k => x i l * (y l k * z k j) := sm_congr fun l _ => sm_mull.symm
  rw [e1, e2, sm_swap]
  exact sm_congr fun l _ => sm_congr fun k _ => Int.mul_assoc _ _ _
theorem mul_congr {n : Nat} {x x' y y' : Nat → Nat → Int} (h1 : ∀ i j, i < n → j < n → x i j = x' i j) (h2 : ∀ i j, i < n → j < n → y i j = y' i j) {i j : Nat} (hi : i < n) (hj : j < n) : mul n x y i j = mul n x' y' i j := sm_congr fun k hk => by rw [h1 i k hi hk, h2 k j hk hj]
theorem mpow_add {n : Nat} {z : Nat → Nat → Int} {b : Nat} : ∀ (a : Nat) {i j : Nat}, i < n → j < n → mul n (mpow n z a) (mpow n z b) i j = mpow n z (a + b) i j
  | 0, i, j, hi, hj => by rw [Nat.zero_add]; exact one_mul hi
  | a + 1, i, j, hi, hj => by
    rw [Nat.succ_add]
    show mul n (mul n z (mpow n z a)) (mpow n z b) i j = mul n z (mpow n z (a + b)) i j
    rw [mul_assoc']
    exact mul_congr (fun _ _ _ _ => rfl) (fun i j hi hj => mpow_add a hi hj) hi hj
theorem sm_le {f g : Nat → Int} : ∀ {n : Nat}, (∀ i, i < n → f i ≤ g i) → sm n f ≤ sm n g
  | 0, _ => Int.le_refl _
  | n + 1, h => by
    unfold sm
    have h1 := sm_le (n := n) (f := f) (g := g) fun i hi => h i (by omega)
    have h2 := h n (by omega)
    omega
theorem mpow_col {n L : Nat} {z : Nat → Nat → Int} (h0 : ∀ i j, i < n → j < n → 0 ≤ z i j) (hc : ∀ j, j < n → sm n (fun i => z i j) ≤ L) : ∀ r, (∀ i j, i < n → j < n → 0 ≤ mpow n z r i j) ∧ ∀ j, j < n → sm n (fun i => mpow n z r i j) ≤ ((L ^ r : Nat) : Int)
  | 0 => by
    refine ⟨fun i j _ _ => by unfold mpow one; split <;> decide, fun j hj => ?_⟩
    have : sm n (fun i => mpow n z 0 i j) = 1 := by
      have := sm_one (n := n) (i := j) (f := fun _ => 1) hj
      rw [← this]
      exact sm_congr fun k _ => by
        unfold mpow one
        by_cases e : k = j
        · subst e; simp
        · rw [if_neg e, if_neg fun h => e h.symm]; simp
    rw [this, Nat.pow_zero]
    exact Int.le_refl _
  | r + 1 => by
    obtain ⟨a, b⟩ := mpow_col h0 hc r
    refine ⟨fun i j hi hj => sm_nonneg fun k hk => Int.mul_nonneg (h0 i k hi hk) (a k j hk hj), fun j hj => ?_⟩
    have e : sm n (fun i => mpow n z (r + 1) i j) = sm n fun k => (sm n fun i => z i k) * mpow n z r k j := by
      show (sm n fun i => sm n fun k => z i k * mpow n z r k j) = _
      rw [sm_swap]
      exact sm_congr fun k _ => sm_mulr
    rw [e]
    refine Int.le_trans (sm_le (g := fun k => L * mpow n z r k j) fun k hk => Int.mul_le_mul_of_nonneg_right (hc k hk) (a k j hk hj)) ?_
    rw [sm_mull, Nat.pow_succ, Nat.mul_comm, Int.natCast_mul]
    exact Int.mul_le_mul_of_nonneg_left (b j hj) (by omega)
theorem mpow_lt {n L : Nat} {z : Nat → Nat → Int} (h0 : ∀ i j, i < n → j < n → 0 ≤ z i j) (hc : ∀ j, j < n → sm n (fun i => z i j) ≤ L) {r B : Nat} (hB : L ^ r < 2 ^ B) {i j : Nat} (hi : i < n) (hj : j < n) : (mpow n z r i j).natAbs < 2 ^ B := by
  obtain ⟨a, b⟩ := mpow_col h0 hc r
  have h1 := sm_mem (f := fun i => mpow n z r i j) (fun k hk => a k j hk hj) hi
  have h2 := b j hj
  have h3 := a i j hi hj
  refine Nat.lt_of_le_of_lt ?_ hB
  clear hB
  have h4 := Int.le_trans h1 h2
  have h5 : (mpow n z r i j) ≤ ((L ^ r : Nat) : Int) := h4
  generalize L ^ r = X at h5
  omega
end MI.K02

set_option Elab.async false
set_option linter.all false
set_option maxRecDepth 100000
set_option maxHeartbeats 400000
set_option exponentiation.threshold 100000
namespace MI.K02
open PySem PySem.Spec PyProof.Rows L2 MI
variable {Q : U → Prop} {E : Str → U → Prop}
/-- so many times a grid -/
def pw (n : Nat) (z : Nat → Nat → Int) (L r : Nat) : U := grid n (mpow n z r) (L ^ r)
theorem pw_mul {n L a b r : Nat} {z : Nat → Nat → Int} (hn : 1 ≤ n ∧ n ≤ 8) (h0 : ∀ i j, i < n → j < n → 0 ≤ z i j) (hc : ∀ j, j < n → sm n (fun i => z i j) ≤ L) (hL : 0 < L) (hr : L ^ r < 2 ^ 4000) (ha : a ≤ r) (hb : b ≤ r) : w_product_of [pw n z L a, pw n z L b] Q E = Q (pw n z L (a + b)) := by
  have la : L ^ a < 2 ^ 4000 := lt_le (Nat.pow_le_pow_right hL ha) hr
  have lb : L ^ b < 2 ^ 4000 := lt_le (Nat.pow_le_pow_right hL hb) hr
  unfold pw
  rw [q_product (B := 4000) (by omega) hn.1 (fun i j hi hj => mpow_lt h0 hc la hi hj) (fun i j hi hj => mpow_lt h0 hc lb hi hj) (by decide) (by decide) la lb, ← Nat.pow_add]
  congr 1
  exact grid_congr fun i j hi hj => mpow_add a hi hj
theorem pw_loop {n L r : Nat} {z : Nat → Nat → Int} (hn : 1 ≤ n ∧ n ≤ 8) (h0 : ∀ i j, i < n → j < n → 0 ≤ z i j) (hc : ∀ j, j < n → sm n (fun i => z i j) ≤ L) (hL : 0 < L) (hr : L ^ r < 2 ^ 4000) {g x : UO} {X : XE} : ∀ (m left a b : Nat), left < m → a + b * left = r → (0 < left → b ≤ r) →
    whV (vTst (vOp vGt (vV 4) (vC (.int 0)))) (wSeq (wIf (vTst (vOp vEq (vOp vMod (vV 4) (vC (.int 2))) (vC (.int 1)))) (wAsg (.nm 2) (vApp w_product_of (vCons (vV 3) (vCons (vV 2) vNil)))) wPass)
      (wSeq (wAsg (.nm 4) (vOp vDiv (vV 4) (vC (.int 2))))
      (wIf (vTst (vOp vGt (vV 4) (vC (.int 0)))) (wAsg (.nm 3) (vApp w_product_of (vCons (vV 3) (vCons (vV 3) vNil)))) wPass))) m [g, x, .va (pw n z L a), .va (pw n z L b), .va (.int (left : Int))] (fun η1 => vV 2 η1 Q fun c u => X c u η1) Q X = Q (pw n z L r) := by
  have two : ∀ k : Int, cDiv k 2 = true := fun k => cDiv_of (by decide) (by decide +kernel)
  intro m
  induction m with
  | zero => intro left a b h; omega
  | succ m ih =>
    intro left a b h e hb
    unfold whV
    simp only [xTst, xOp, xV4, xC, xGt, xB_bl]
    by_cases h1 : 0 < left
    · have h2 : (0 : Int) < left := by omega
      have hd : (left : Int).fdiv 2 = ((left / 2 : Nat) : Int) := by rw [Int.fdiv_eq_ediv_of_nonneg _ (by decide)]; omega
      have hm : (left : Int).fmod 2 = ((left % 2 : Nat) : Int) := by rw [Int.fmod_eq_emod_of_nonneg _ (by decide)]; omega
      have ha : a ≤ r := by rw [← e]; exact Nat.le_add_right _ _
      have dm := Nat.div_add_mod left 2
      have e5 : b * left = b * (2 * (left / 2)) + b * (left % 2) := by rw [← Nat.mul_add, dm]
      have next : ∀ a' : Nat, a' + b * (2 * (left / 2)) = r → ∀ (K : Prop), True → (wSeq (wAsg (.nm 4) (vOp vDiv (vV 4) (vC (.int 2)))) (wIf (vTst (vOp vGt (vV 4) (vC (.int 0)))) (wAsg (.nm 3) (vApp w_product_of (vCons (vV 3) (vCons (vV 3) vNil)))) wPass)) [g, x, .va (pw n z L a'), .va (pw n z L b), .va (.int (left : Int))] (fun η2 => whV (vTst (vOp vGt (vV 4) (vC (.int 0)))) (wSeq (wIf (vTst (vOp vEq (vOp vMod (vV 4) (vC (.int 2))) (vC (.int 1)))) (wAsg (.nm 2) (vApp w_product_of (vCons (vV 3) (vCons (vV 2) vNil)))) wPass)
      (wSeq (wAsg (.nm 4) (vOp vDiv (vV 4) (vC (.int 2))))
      (wIf (vTst (vOp vGt (vV 4) (vC (.int 0)))) (wAsg (.nm 3) (vApp w_product_of (vCons (vV 3) (vCons (vV 3) vNil)))) wPass))) m η2 (fun η1 => vV 2 η1 Q fun c u => X c u η1) Q X) Q X (fun η1 => vV 2 η1 Q fun c u => X c u η1) (fun η2 => whV (vTst (vOp vGt (vV 4) (vC (.int 0)))) (wSeq (wIf (vTst (vOp vEq (vOp vMod (vV 4) (vC (.int 2))) (vC (.int 1)))) (wAsg (.nm 2) (vApp w_product_of (vCons (vV 3) (vCons (vV 2) vNil)))) wPass)
      (wSeq (wAsg (.nm 4) (vOp vDiv (vV 4) (vC (.int 2))))
      (wIf (vTst (vOp vGt (vV 4) (vC (.int 0)))) (wAsg (.nm 3) (vApp w_product_of (vCons (vV 3) (vCons (vV 3) vNil)))) wPass))) m η2 (fun η1 => vV 2 η1 Q fun c u => X c u η1) Q X) = Q (pw n z L r) := by
        intro a' ea K _
        simp only [sSeq', sAsg', xOp, xV4, xC, xDiv (two _), hd, asgN, List.set_cons_zero, List.set_cons_succ, sIf', xTst, xGt, xB_bl]
        by_cases h3 : 0 < left / 2
        · have h4 : (0 : Int) < ((left / 2 : Nat) : Int) := by omega
          have hb2 : b + b ≤ r := by
            have : b * 2 ≤ b * (2 * (left / 2)) := Nat.mul_le_mul_left _ (by omega)
            omega
          simp only [h4, decide_true, if_true, sAsg', xApp, xCons, xNil, xV3, pw_mul hn h0 hc hL hr (hb h1) (hb h1), asgN, List.set_cons_zero, List.set_cons_succ]
          exact ih (left / 2) a' (b + b) (by omega) (by rw [← Nat.two_mul, Nat.mul_comm 2 b, Nat.mul_assoc]; exact ea) fun _ => hb2
        · have h4 : ¬ (0 : Int) < ((left / 2 : Nat) : Int) := by omega
          have h5 : left / 2 = 0 := by omega
          simp only [h4, decide_false, Bool.false_eq_true, if_false, sPass']
          exact ih (left / 2) a' b (by omega) (by rw [h5] at ea ⊢; simpa using ea) fun z => by omega
      simp only [h2, decide_true, if_true, sSeq' (a := wIf _ _ _), sIf', xTst, xOp, xV4, xC, xMod (show (2 : Int) ≠ 0 by decide), hm, xEqI, xB_bl]
      by_cases h3 : left % 2 = 1
      · have h4 : ((left % 2 : Nat) : Int) = 1 := by omega
        simp only [h4, decide_true, if_true, sAsg', xApp, xCons, xNil, xV2, xV3, pw_mul hn h0 hc hL hr (hb h1) ha, asgN, List.set_cons_zero, List.set_cons_succ]
        exact next (b + a) (by rw [h3, Nat.mul_one] at e5; omega) True trivial
      · have h4 : ¬ ((left % 2 : Nat) : Int) = 1 := by omega
        simp only [h4, decide_false, Bool.false_eq_true, if_false, sPass']
        exact next a (by rw [show left % 2 = 0 by omega, Nat.mul_zero] at e5; omega) True trivial
    · have h2 : ¬ (0 : Int) < left := by omega
      have h3 : left = 0 := by omega
      subst h3
      simp only [h2, decide_false, Bool.false_eq_true, if_false, xV2]
      rw [Nat.mul_zero, Nat.add_zero] at e
      rw [e]
theorem q_power_of {n L r : Nat} {z : Nat → Nat → Int} (hn : 1 ≤ n ∧ n ≤ 8) (h0 : ∀ i j, i < n → j < n → 0 ≤ z i j) (hc : ∀ j, j < n → sm n (fun i => z i j) ≤ L) (hL : 0 < L) (hr : L ^ r < 2 ^ 4000) (hr2 : r < 4000) : w_power_of [grid n z L, .int (r : Int)] Q E = Q (pw n z L r) := by
  have g1 : grid n z L = pw n z L 1 := by
    unfold pw
    rw [Nat.pow_one]
    refine grid_congr fun i j hi hj => ?_
    show z i j = mul n z one i j
    have := mpow_add (z := z) (b := 0) (n := n) 1 hi hj
    unfold mul
    have e : (sm n fun k => z i k * one k j) = sm n fun k => one j k * z i k := sm_congr fun k _ => by
      rw [Int.mul_comm]
      unfold one
      by_cases e : k = j
      · subst e; simp
      · rw [if_neg e, if_neg fun h => e h.symm]
    rw [e, sm_one hj]
  have l0 : ∀ Q : U → Prop, vIx (grid n z L) (.int 0) Q = Q (.lst (vec n fun i => .lst (vec n fun j => .int (z i j)))) := fun Q => xIxT0
  simp only [w_power_of, en, List.map_cons, List.map_nil, List.length_cons, List.length_nil, Nat.reduceAdd, Nat.reduceSub, List.replicate, List.cons_append, List.nil_append, v_power_of, sSeq' (a := wPar3 _ _ _ _ _ _), sPar3', xApp, xCons, xNil, xFN, xOp, xV0, xV1, xC, l0, xLenL, vec_len, q_still_grid (show n ≤ 16 by omega), List.set_cons_zero, List.set_cons_succ, sSeq' (a := wWh _ _ _), sWh', sRet']
  have e1 : grid n (fun i j => if i = j then 1 else 0) 1 = pw n z L 0 := rfl
  rw [e1, g1]
  exact pw_loop hn h0 hc hL hr 4000 r 0 1 hr2 (by omega) (by omega)
end MI.K02

set_option Elab.async false
set_option linter.all false
set_option maxRecDepth 100000
set_option maxHeartbeats 400000
set_option exponentiation.threshold 100000
namespace MI.K02
open PySem PySem.Spec PyProof.Rows L2 MI
variable {Q : U → Prop} {E : Str → U → Prop}
theorem gcd_pow_dvd {a b : Nat} : ∀ M : Nat, Nat.gcd a (b ^ M) ∣ Nat.gcd a b ^ M
  | 0 => by rw [Nat.pow_zero, Nat.pow_zero, Nat.gcd_one_right]; exact Nat.dvd_refl _
  | M + 1 => by
    rw [Nat.pow_succ, Nat.pow_succ]
    exact Nat.dvd_trans (Nat.gcd_mul_right_dvd_mul_gcd a (b ^ M) b) (Nat.mul_dvd_mul (gcd_pow_dvd M) (Nat.dvd_refl _))
theorem red_loop {a below base : Nat} (ha : 0 < a) (hb : 0 < below) (hpow : ∃ r, below = base ^ r) (la : a < 2 ^ 4000) (lb : below < 2 ^ 4000) {X : XE} : ∀ (m s l p : Nat), l < 2 ^ m → a = s * l → 0 < p → p ∣ l → (∃ M, Nat.gcd l base ∣ p ^ M) →
    whV (vTst (vOp vGt (vV 5) (vC (.int 1)))) (wSeq (wPar 3 4 (vOp vMul (vV 3) (vV 5)) (vOp vDiv (vV 4) (vV 5)))
      (wAsg (.nm 5) (vApp (vFN vGcd) (vCons (vV 4) (vCons (vOp vMul (vV 5) (vV 5)) vNil))))) m [.va (.int (a : Int)), .va (.int (below : Int)), .va (.int (base : Int)), .va (.int (s : Int)), .va (.int (l : Int)), .va (.int (p : Int)), .un] (fun η1 => wSeq (wAsg (.nm 6) (vApp (vFN vGcd) (vCons (vV 3) (vCons (vV 1) vNil))))
      (wRet (vApp (vFN vTup) (vCons (vOp vDiv (vV 0) (vV 6)) (vCons (vOp vDiv (vV 1) (vV 6)) vNil)))) η1 (fun _ => Q .non) Q X (fun _ => False) (fun _ => False)) Q X = Q (F (mkRat a below)) := by
  intro m
  induction m with
  | zero =>
    intro s l p h e hp hd hM
    have : l = 0 := by omega
    subst this
    omega
  | succ m ih =>
    intro s l p h e hp hd hM
    have l0 : 0 < l := Nat.pos_of_ne_zero fun z => by subst z; omega
    have s0 : 0 < s := Nat.pos_of_ne_zero fun z => by subst z; omega
    have sa : s ≤ a := by rw [e]; exact Nat.le_mul_of_pos_right _ l0
    have pl : p ≤ l := Nat.le_of_dvd l0 hd
    have lle : l ≤ a := by rw [e]; exact Nat.le_mul_of_pos_left _ s0
    have lp : p < 2 ^ 4000 := lt_le (Nat.le_trans pl lle) la
    have ls : s < 2 ^ 4000 := lt_le sa la
    obtain ⟨M, hM⟩ := hM
    unfold whV
    simp only [xTst, xOp, xV5, xC, xGt, xB_bl]
    by_cases h1 : 1 < p
    · have h2 : (1 : Int) < p := by omega
      have cp : ∀ i, cDiv i (p : Int) = true := fun i => cDiv_of (by omega) (by rw [Int.natAbs_natCast]; exact Nat.lt_trans lp (by decide +kernel))
      obtain ⟨q, hq⟩ := hd
      have dq : (l : Int).fdiv p = (q : Int) := by
        rw [Int.fdiv_eq_ediv_of_nonneg _ (by omega), hq, Int.natCast_mul, Int.mul_ediv_cancel_left _ (by omega)]
      simp only [h2, decide_true, if_true, sSeq' (a := wPar _ _ _ _), sPar', xOp, xV3, xV4, xV5, xMul (mulOk_of (nc ls) (nc lp) (by decide)), xDiv (cp _), dq, List.set_cons_zero, List.set_cons_succ, sAsg', xApp, xCons, xNil, xFN, xMul (mulOk_of (nc lp) (nc lp) (by decide)), xGcd, asgN]
      have en1 : ((s : Int) * p) = ((s * p : Nat) : Int) := by rw [Int.natCast_mul]
      have en2 : (Nat.gcd (q : Int).natAbs ((p : Int) * p).natAbs : Nat) = Nat.gcd q (p * p) := by rw [Int.natAbs_natCast, Int.natAbs_mul, Int.natAbs_natCast]
      rw [en1, en2]
      have q0 : 0 < q := Nat.pos_of_ne_zero fun z => by subst z; omega
      refine ih (s * p) q (Nat.gcd q (p * p)) ?_ (by rw [e, hq, Nat.mul_assoc]) (Nat.gcd_pos_of_pos_left _ q0) (Nat.gcd_dvd_left _ _) ⟨M, ?_⟩
      · have h3 : 2 * q ≤ p * q := Nat.mul_le_mul_right _ (by omega)
        rw [Nat.pow_succ] at h
        rw [← hq] at h3
        generalize 2 ^ m = z at h ⊢
        omega
      · have g1 : Nat.gcd q base ∣ p ^ M := Nat.dvd_trans (Nat.dvd_gcd (Nat.dvd_trans (Nat.gcd_dvd_left _ _) ⟨p, by rw [hq, Nat.mul_comm]⟩) (Nat.gcd_dvd_right _ _)) hM
        have g2 : p ^ M ∣ (p * p) ^ M := by rw [Nat.mul_pow]; exact Nat.dvd_mul_right _ _
        exact Nat.dvd_trans (Nat.dvd_gcd (Nat.gcd_dvd_left _ _) (Nat.dvd_trans g1 g2)) (gcd_pow_dvd M)
    · have h2 : ¬ (1 : Int) < p := by omega
      have p1 : p = 1 := by omega
      subst p1
      rw [Nat.one_pow] at hM
      have co : Nat.Coprime l base := Nat.eq_one_of_dvd_one hM
      obtain ⟨r, hr⟩ := hpow
      have co2 : Nat.Coprime l below := by rw [hr]; exact Nat.Coprime.pow_right r co
      have g : Nat.gcd s below = Nat.gcd a below := by rw [e, Nat.Coprime.gcd_mul_right_cancel s co2]
      have g0 : 0 < Nat.gcd a below := Nat.gcd_pos_of_pos_right _ hb
      have cg : ∀ i, cDiv i (Nat.gcd a below : Int) = true := fun i => cDiv_of (by omega) (by rw [Int.natAbs_natCast]; exact Nat.lt_of_le_of_lt (Nat.gcd_le_right _ hb) (Nat.lt_trans lb (by decide +kernel)))
      simp only [h2, decide_false, Bool.false_eq_true, if_false, sSeq', sAsg', xApp, xCons, xNil, xFN, xV0, xV1, xV3, xV6, xGcd, Int.natAbs_natCast, g, asgN, List.set_cons_zero, List.set_cons_succ, sRet', xOp, xDiv (cg _), xTup2, Int.fdiv_eq_ediv_of_nonneg _ (Int.natCast_nonneg _)]
      have := low_eq (a := (a : Int)) hb
      rw [Int.natAbs_natCast] at this
      rw [this]
theorem q_reduced_by {a : Int} {base r : Nat} (ha : 0 ≤ a) (hb : 0 < base) (la : a.natAbs < 2 ^ 4000) (lb : base ^ r < 2 ^ 4000) : w_reduced_by [.int a, .int ((base ^ r : Nat) : Int), .int (base : Int)] Q E = Q (F (mkRat a (base ^ r))) := by
  obtain ⟨a, rfl⟩ : ∃ n : Nat, a = n := ⟨a.toNat, by omega⟩
  rw [Int.natAbs_natCast] at la
  have p0 : 0 < base ^ r := Nat.pow_pos hb
  simp only [w_reduced_by, en, List.map_cons, List.map_nil, List.length_cons, List.length_nil, Nat.reduceAdd, Nat.reduceSub, List.replicate, List.cons_append, List.nil_append, v_reduced_by, sSeq' (a := wIf _ _ _), sIf', xTst, xOp, xV0, xC, xEqI, xB_bl]
  by_cases h : a = 0
  · subst h
    simp only [Int.natCast_zero, decide_true, if_true, sRet', xC]
    rw [← mk_zero (N := base ^ r)]
  · have h1 : ¬ ((a : Int) = 0) := by omega
    simp only [h1, decide_false, Bool.false_eq_true, if_false, sPass', sSeq' (a := wPar3 _ _ _ _ _ _), sPar3', xC, xV0, xApp, xCons, xNil, xFN, xV2, xGcd, Int.natAbs_natCast, List.set_cons_zero, List.set_cons_succ, sSeq' (a := wWh _ _ _), sWh']
    exact red_loop (X := fun c u _ => E c u) (by omega) p0 ⟨r, rfl⟩ la lb 4000 1 a (Nat.gcd a base) la (by omega) (Nat.gcd_pos_of_pos_left _ (by omega)) (Nat.gcd_dvd_left _ _) ⟨1, by rw [Nat.pow_one]; exact Nat.dvd_refl _⟩
theorem q_powered {n L r : Nat} {z : Nat → Nat → Int} (hn : 1 ≤ n ∧ n ≤ 8) (h0 : ∀ i j, i < n → j < n → 0 ≤ z i j) (hc : ∀ j, j < n → sm n (fun i => z i j) ≤ L) (hL : 0 < L) (hr : L ^ r < 2 ^ 4000) (hr2 : r < 4000) : w_powered [grid n z L, .int (r : Int)] Q E = Q (tabR n (L ^ r) (mpow n z r)) := by
  have i1 : ∀ Q : U → Prop, vIx (grid n z L) (.int 1) Q = Q (.int (L : Int)) := fun Q => xIxT1
  have pe : pw n z L r = .tup [.lst (vec n fun i => .lst (vec n fun j => .int (mpow n z r i j))), .int ((L ^ r : Nat) : Int)] := rfl
  simp only [w_powered, en, List.map_cons, List.map_nil, List.length_cons, List.length_nil, Nat.reduceAdd, Nat.reduceSub, List.replicate, List.cons_append, List.nil_append, v_powered, sSeq', sAsg', xApp, xCons, xNil, xV0, xV1, q_power_of hn h0 hc hL hr hr2, pe, asgT2, List.set_cons_zero, List.set_cons_succ, sRet', xL, xLc, xSrc, xV2, seqL, vec_len, wipe1, wipe0, xTupL]
  rw [and_eq (by omega), lcV_vec (g := fun i => .tup (vec n fun j => R (L ^ r) (mpow n z r i j))) fun i hi Q => ?_]
  · rfl
  · simp only [List.set_cons_zero, List.set_cons_succ, xL, xLc, xSrc, xV5, seqL, vec_len, wipe1, wipe0, xTupL]
    rw [and_eq (by omega), lcV_vec (g := fun j => R (L ^ r) (mpow n z r i j)) fun j hj Q => ?_]
    simp only [List.set_cons_zero, List.set_cons_succ, xApp, xCons, xNil, xV4, xV3, xOp, xV0, xC, i1]
    exact q_reduced_by ((mpow_col h0 hc r).1 i j hi hj) hL (mpow_lt h0 hc hr hi hj) hr
theorem mpow_scale {n K : Nat} {y z : Nat → Nat → Int} (h : ∀ i j, i < n → j < n → z i j = y i j * K) : ∀ (r : Nat) {i j : Nat}, i < n → j < n → mpow n z r i j = mpow n y r i j * ((K ^ r : Nat) : Int)
  | 0, i, j, _, _ => by
    show one i j = one i j * _
    rw [Nat.pow_zero]
    simp
  | r + 1, i, j, hi, hj => by
    show (sm n fun k => z i k * mpow n z r k j) = (sm n fun k => y i k * mpow n y r k j) * _
    rw [← sm_mulr]
    refine sm_congr fun k hk => ?_
    rw [h i k hi hk, mpow_scale h r hk hj, Nat.pow_succ, Int.natCast_mul]
    rw [Int.mul_assoc, Int.mul_left_comm (K : Int), Int.mul_assoc, Int.mul_comm (K : Int), ← Int.mul_assoc (mpow n y r k j)]
    try simp only [Int.mul_assoc]
theorem q_power {n N r : Nat} {z : Nat → Nat → Int} (t : Tb n N z) (hr : N ^ r < 2 ^ 4000) (hr2 : r < 4000) : w_power [tabR n N z, .int (r : Int)] Q E = Q (tabR n (N ^ r) (mpow n z r)) := by
  obtain ⟨L, K, y, e, L0, K0, hy, g⟩ := t.grid
  have r0 : ¬ (r : Int) < 0 := by omega
  have y0 : ∀ i j, i < n → j < n → 0 ≤ y i j := fun i j hi hj => by
    have := t.zero i j hi hj
    rw [hy i j hi hj] at this
    exact Int.nonneg_of_mul_nonneg_left this (by omega)
  have yc : ∀ j, j < n → sm n (fun i => y i j) ≤ L := fun j hj => by
    have h1 := t.col j hj
    have h2 : sm n (fun i => z i j) = sm n (fun i => y i j) * K := by
      rw [← sm_mulr]
      exact sm_congr fun i hi => hy i j hi hj
    rw [h2, e, Int.natCast_mul] at h1
    exact Int.le_of_mul_le_mul_right h1 (by omega)
  have lr : L ^ r < 2 ^ 4000 := lt_le (Nat.pow_le_pow_left (by rw [e]; exact Nat.le_mul_of_pos_right _ K0) r) hr
  simp only [w_power, en, List.map_cons, List.map_nil, List.length_cons, List.length_nil, Nat.reduceAdd, Nat.reduceSub, List.replicate, List.append_nil, v_power, sSeq', sExpr', xApp, xCons, xNil, xV0, xV1, t.check, w_check_rounds, v_check_rounds, sIf', xTst, xOp, xC, xLt, xB_bl, r0, decide_false, Bool.false_eq_true, if_false, sPass', sRet', g, q_powered t.hn y0 yc L0 lr hr2]
  congr 1
  refine tab_congr fun i j hi hj => ?_
  rw [mpow_scale hy r hi hj, e, Nat.mul_pow]
  exact (mk_cancel (Nat.pow_pos K0)).symm
theorem q_power_neg {n N : Nat} {r : Int} {z : Nat → Nat → Int} (t : Tb n N z) (h : r < 0) : w_power [tabR n N z, .int r] Q E = E "InvalidNumber" (.int r) := by
  simp only [w_power, en, List.map_cons, List.map_nil, List.length_cons, List.length_nil, Nat.reduceAdd, Nat.reduceSub, List.replicate, List.append_nil, v_power, sSeq', sExpr', xApp, xCons, xNil, xV0, xV1, t.check, w_check_rounds, v_check_rounds, sIf', xTst, xOp, xC, xLt, xB_bl, h, decide_true, if_true, sRaise']
end MI.K02

set_option Elab.async false
set_option linter.all false
set_option maxRecDepth 100000
set_option maxHeartbeats 400000
set_option exponentiation.threshold 100000
namespace MI.K02
open PySem PySem.Spec PyProof.Rows L2 MI
variable {Q : U → Prop} {E : Str → U → Prop}
/-! fractions by Euclid -/
theorem gl {a : Int} {n : Nat} (hn : 0 < n) (ln : n < 2 ^ 4000) {X : XE} : ∀ (k x y : Nat) (us : List U) (o : UO), y < 2 ^ k → 2 * k ≤ us.length → Nat.gcd x y = Nat.gcd a.natAbs n →
    forV (.nm 4) (wSeq (wIf (vTst (vOp vEq (vV 3) (vC (.int 0)))) wBrk wPass) (wPar 2 3 (vV 3) (vOp vMod (vApp (vFN vInt) (vCons (vV 2) vNil)) (vV 3)))) us [.va (.int a), .va (.int (n : Int)), .va (.int (x : Int)), .va (.int (y : Int)), o]
      (fun η1 => vApp (vFN vTup) (vCons (vOp vDiv (vV 0) (vV 2)) (vCons (vOp vDiv (vV 1) (vV 2)) vNil)) η1 Q fun c u => X c u η1) Q X = Q (F (mkRat a n)) := by
  have fin : ∀ (x : Nat) (o : UO), x = Nat.gcd a.natAbs n → vApp (vFN vTup) (vCons (vOp vDiv (vV 0) (vV 2)) (vCons (vOp vDiv (vV 1) (vV 2)) vNil)) [.va (.int a), .va (.int (n : Int)), .va (.int (x : Int)), .va (.int 0), o] Q (fun c u => X c u [.va (.int a), .va (.int (n : Int)), .va (.int (x : Int)), .va (.int 0), o]) = Q (F (mkRat a n)) := by
    intro x o hx
    have g0 : 0 < Nat.gcd a.natAbs n := Nat.gcd_pos_of_pos_right _ hn
    have cg : ∀ i, cDiv i (Nat.gcd a.natAbs n : Int) = true := fun i => cDiv_of (by omega) (by rw [Int.natAbs_natCast]; exact Nat.lt_of_le_of_lt (Nat.gcd_le_right _ hn) (Nat.lt_trans ln (by decide +kernel)))
    rw [hx]
    simp only [xApp, xCons, xNil, xFN, xOp, xV0, xV1, xV2, xDiv (cg _), xTup2, Int.fdiv_eq_ediv_of_nonneg _ (Int.natCast_nonneg _)]
    rw [low_eq hn]
  have stop : ∀ (x : Nat) (us : List U) (o : UO), x = Nat.gcd a.natAbs n → forV (.nm 4) (wSeq (wIf (vTst (vOp vEq (vV 3) (vC (.int 0)))) wBrk wPass) (wPar 2 3 (vV 3) (vOp vMod (vApp (vFN vInt) (vCons (vV 2) vNil)) (vV 3)))) us [.va (.int a), .va (.int (n : Int)), .va (.int (x : Int)), .va (.int 0), o]
      (fun η1 => vApp (vFN vTup) (vCons (vOp vDiv (vV 0) (vV 2)) (vCons (vOp vDiv (vV 1) (vV 2)) vNil)) η1 Q fun c u => X c u η1) Q X = Q (F (mkRat a n)) := by
    intro x us o hx
    cases us with
    | nil => exact fin x o hx
    | cons u us =>
      unfold forV
      simp only [asgN, List.set_cons_zero, List.set_cons_succ, sSeq', sIf', xTst, xOp, xV3, xC, xEqI, xB_bl, decide_true, if_true, sBrk']
      exact fin x _ hx
  have step : ∀ (x y : Nat) (u : U) (us : List U) (o : UO), 0 < y → forV (.nm 4) (wSeq (wIf (vTst (vOp vEq (vV 3) (vC (.int 0)))) wBrk wPass) (wPar 2 3 (vV 3) (vOp vMod (vApp (vFN vInt) (vCons (vV 2) vNil)) (vV 3)))) (u :: us) [.va (.int a), .va (.int (n : Int)), .va (.int (x : Int)), .va (.int (y : Int)), o]
      (fun η1 => vApp (vFN vTup) (vCons (vOp vDiv (vV 0) (vV 2)) (vCons (vOp vDiv (vV 1) (vV 2)) vNil)) η1 Q fun c u => X c u η1) Q X = forV (.nm 4) (wSeq (wIf (vTst (vOp vEq (vV 3) (vC (.int 0)))) wBrk wPass) (wPar 2 3 (vV 3) (vOp vMod (vApp (vFN vInt) (vCons (vV 2) vNil)) (vV 3)))) us [.va (.int a), .va (.int (n : Int)), .va (.int (y : Int)), .va (.int ((x % y : Nat) : Int)), .va u]
      (fun η1 => vApp (vFN vTup) (vCons (vOp vDiv (vV 0) (vV 2)) (vCons (vOp vDiv (vV 1) (vV 2)) vNil)) η1 Q fun c u => X c u η1) Q X := by
    intro x y u us o hy
    have h1 : ¬ (y : Int) = 0 := by omega
    have hm : (x : Int).fmod y = ((x % y : Nat) : Int) := by rw [Int.fmod_eq_emod_of_nonneg _ (by omega)]; omega
    conv => lhs; unfold forV
    simp only [asgN, List.set_cons_zero, List.set_cons_succ, sSeq', sIf', xTst, xOp, xV2, xV3, xC, xEqI, xB_bl, h1, decide_false, Bool.false_eq_true, if_false, sPass', sPar', xApp, xCons, xNil, xFN, xInt, xMod (show (y : Int) ≠ 0 from h1), hm]
  intro k
  induction k with
  | zero =>
    intro x y us o h _ g
    have : y = 0 := by omega
    subst this
    rw [Nat.gcd_zero_right] at g
    exact stop x us o g
  | succ k ih =>
    intro x y us o h hl g
    by_cases hy : y = 0
    · subst hy
      rw [Nat.gcd_zero_right] at g
      exact stop x us o g
    · match us, hl with
      | u :: v :: us, hl =>
        rw [step x y u _ o (by omega)]
        have g2 : Nat.gcd y (x % y) = Nat.gcd a.natAbs n := by rw [← g, Nat.gcd_comm x y, Nat.gcd_comm y (x % y), ← Nat.gcd_rec]
        by_cases hz : x % y = 0
        · rw [hz] at g2 ⊢
          rw [Nat.gcd_zero_right] at g2
          exact stop y _ _ g2
        · rw [step y (x % y) v _ _ (by omega)]
          refine ih (x % y) (y % (x % y)) us _ ?_ (by simp at hl; omega) (by rw [← g2, Nat.gcd_comm y, Nat.gcd_comm (x % y), ← Nat.gcd_rec])
          have r1 : x % y < y := Nat.mod_lt _ (by omega)
          have r2 : y % (x % y) < x % y := Nat.mod_lt _ (by omega)
          have r3 : y % (x % y) + (x % y) ≤ y := by
            have := Nat.div_add_mod y (x % y)
            have q0 : 0 < y / (x % y) := Nat.div_pos (by omega) (by omega)
            have : (x % y) ≤ (x % y) * (y / (x % y)) := Nat.le_mul_of_pos_right _ q0
            omega
          rw [Nat.pow_succ] at h
          generalize 2 ^ k = z at h ⊢
          omega
theorem q_low {a : Int} {n : Nat} (hn : 0 < n) (ln : n < 2 ^ 4000) : w_low [.int a, .int (n : Int)] Q E = Q (F (mkRat a n)) := by
  have ha : (if a < 0 then -a else a) = (a.natAbs : Int) := by split <;> omega
  simp only [w_low, en, List.map_cons, List.map_nil, List.length_cons, List.length_nil, Nat.reduceAdd, Nat.reduceSub, List.replicate, List.cons_append, List.nil_append, v_low, sSeq' (a := wAsg _ _), sAsg', xApp, xCons, xNil, xFN, xV0, xV1, xAbs, ha, asgN, List.set_cons_zero, List.set_cons_succ, sSeq' (a := wFor _ _ _), sFor', xRng1, xC, sRet']
  have e1 : small62 20000 = true := small_nat (n := 20000) (by decide)
  have e2 : rngU 0 (Int.toNat 20000) = vec 20000 fun i => .int (i : Int) := rngU_eq 20000
  rw [and_eq e1, e2, vec_len, and_eq (by decide)]
  exact gl hn ln 4000 a.natAbs n _ _ ln (by rw [vec_len]; decide) rfl
/-- columns of so many parts -/
def colsU (n : Nat) (c : Nat → Nat → Int) : U := .lst (vec n fun j => .lst (vec n fun i => .int (c j i)))
theorem app_vec {n : Nat} {f : Nat → U} : vec n f ++ [f n] = vec (n + 1) f := vec_succ.symm
theorem q_table_of {n : Nat} {c : Nat → Nat → Int} {b : Nat → Nat} (hn : n ≤ 16) (hb : ∀ j, j < n → 0 < b j) (lb : ∀ j, j < n → b j < 2 ^ 4000) : w_table_of [colsU n c, .lst (vec n fun j => .int (b j : Int))] Q E = Q (tabF n fun i j => mkRat (c j i) (b j)) := by
  simp only [w_table_of, en, List.map_cons, List.map_nil, List.length_cons, List.length_nil, Nat.reduceAdd, Nat.reduceSub, List.replicate, List.cons_append, List.nil_append, v_table_of, colsU, sSeq' (a := wOwn _ _), sOwn', oLst, xNil, List.set_cons_zero, List.set_cons_succ, sSeq' (a := wFor _ _ _), sFor', xRng1, xApp, xCons, xFN, xV0, xLenL, vec_len]
  rw [and_eq (by simp), and_eq (small_nat (by omega)), Int.toNat_natCast, rngU_eq, vec_len, and_eq (by omega)]
  refine (forV_det (e := fun m o => [.va (.lst (vec n fun j => .lst (vec n fun i => .int (c j i)))), .va (.lst (vec n fun j => .int (b j : Int))), .ow (vec m fun i => .tup (vec n fun j => F (mkRat (c j i) (b j)))), o, .un]) (fun m o u => rfl) (fun i hi K N2 => ?_) .un).trans ?_
  · simp only [xAp2, vec_len, xL, xLc, xRng1, xApp, xCons, xNil, xFN, xV0, xLenL, wipe1, wipe0, List.set_cons_zero, List.set_cons_succ, xTupL]
    rw [and_eq (by omega), and_eq (small_nat (by omega)), Int.toNat_natCast, rngU_eq, vec_len, and_eq (by omega), lcV_vec (g := fun j => F (mkRat (c j i) (b j))) fun j hj Q => ?_, app_vec (f := fun i => U.tup (vec n fun j => F (mkRat (c j i) (b j))))]
    simp only [List.set_cons_zero, List.set_cons_succ, xApp, xCons, xNil, xOp, xV0, xV1, xV3, xV4]
    rw [ixVL hj, ixVL hi, ixVL hj, q_low (hb j hj) (lb j hj)]
  · simp only [xFo2, sRet', xApp, xCons, xNil, xFN, xV2, xTupleL]
    rfl
end MI.K02

set_option Elab.async false
set_option linter.all false
set_option maxRecDepth 100000
set_option maxHeartbeats 400000
set_option exponentiation.threshold 100000
namespace MI.K02
open PySem PySem.Spec PyProof.Rows L2 MI
variable {Q : U → Prop} {E : Str → U → Prop}
theorem q_add {p : Rat} {x : Int} {m : Nat} (hm : 0 < m) (h1 : p.num.natAbs < 2 ^ 1900) (h2 : p.den < 2 ^ 1900) (h3 : x.natAbs < 2 ^ 1900) (h4 : m < 2 ^ 1900) : w_add [F p, .tup [.int x, .int (m : Int)]] Q E = Q (F (p + mkRat x m)) := by
  have m1 := mulOk_of h1 (nc h4) (by decide)
  have m2 := mulOk_of h3 (nc h2) (by decide)
  have m3 := mulOk_of (nc h2) (nc h4) (by decide)
  simp only [w_add, en, List.map_cons, List.map_nil, List.length_cons, List.length_nil, Nat.reduceAdd, Nat.reduceSub, List.replicate, List.append_nil, v_add, sRet', xApp, xCons, xNil, xOp, xV0, xV1, xC, ix0F, ix1F, xIxT0, xIxT1, xMul m1, xMul m2, xMul m3, xAdd]
  rw [← Int.natCast_mul, q_low (Nat.mul_pos p.den_pos hm) (Nat.lt_trans (prod_lt h2 h4) (by decide +kernel))]
  congr 2
  conv => rhs; rw [← Rat.mkRat_self p]
  rw [Rat.mkRat_add_mkRat _ _ (p.den_nz) (by omega)]
theorem q_entry {n M N : Nat} {y z : Nat → Int} {c : List U → U} (hc : ∀ (us : List U) (k : Nat) (u : U), us[k]? = some u → ∀ Q : U → Prop, vIx (c us) (.int (k : Int)) Q = Q u) (hn : n ≤ 16) (hM : 0 < M) (hN : 0 < N) (lM : M < 2 ^ 400) (lN : N < 2 ^ 400) (ly : ∀ k, k < n → (y k).natAbs < 2 ^ 400) (lz : ∀ k, k < n → (z k).natAbs < 2 ^ 400) : w_entry [.tup (vec n fun k => R M (y k)), c (vec n fun k => R N (z k))] Q E = Q (R (M * N) (sm n fun k => y k * z k)) := by
  simp only [w_entry, en, List.map_cons, List.map_nil, List.length_cons, List.length_nil, Nat.reduceAdd, Nat.reduceSub, List.replicate, List.cons_append, List.nil_append, v_entry, sSeq' (a := wAsg _ _), sAsg', xApp, xCons, xNil, xFN, xC, xTup2, asgN, List.set_cons_zero, List.set_cons_succ, sSeq' (a := wFor _ _ _), sFor', xRng1, xV0, xLenT, vec_len, sRet']
  have e0 : U.tup [.int 0, .int 1] = R (M * N) 0 := (mk_zero (N := M * N)).symm
  rw [and_eq (small_nat (by omega)), Int.toNat_natCast, rngU_eq, vec_len, and_eq (by omega), e0]
  refine (forV_det (e := fun m o => [.va (.tup (vec n fun k => R M (y k))), .va (c (vec n fun k => R N (z k))), .va (R (M * N) (sm m fun k => y k * z k)), o]) (fun m o u => rfl) (fun k hk K N2 => ?_) .un).trans (xV2 ..)
  have ic : ∀ Q : U → Prop, vIx (c (vec n fun k => R N (z k))) (.int (k : Int)) Q = Q (R N (z k)) := fun Q => hc _ _ _ (vec_get hk) Q
  have a1 := lt_le (num_le (y k) M) (ly k hk)
  have a2 := lt_le (num_le (z k) N) (lz k hk)
  have a3 := lt_le (den_le (y k) hM) lM
  have a4 := lt_le (den_le (z k) hN) lN
  have m1 := mulOk_of a1 a2 (by decide)
  have m2 := mulOk_of (nc a3) (nc a4) (by decide)
  have b1 : (sm k fun k => y k * z k).natAbs < 2 ^ 804 := sm_lt (k := 800) (by omega) fun i hi => mul_lt2 (m := 400) (n := 400) (ly i (by omega)) (lz i (by omega))
  have mn := Nat.mul_pos hM hN
  have b2 : M * N < 2 ^ 800 := prod_lt lM lN
  simp only [sAsg', xApp, xCons, xNil, xFN, xV0, xV1, xV2, xV3, xOp, ixV hk, ic, xC, ix0F, ix1F, xMul m1, xMul m2, xTup2]
  rw [← Int.natCast_mul, q_add (Nat.mul_pos (mkRat (y k) M).den_pos (mkRat (z k) N).den_pos) (Nat.lt_of_lt_of_le (lt_le (num_le _ _) b1) (p2_mono (by decide))) (Nat.lt_of_lt_of_le (lt_le (den_le _ mn) b2) (p2_mono (by decide))) (Nat.lt_of_lt_of_le (mul_lt2 a1 a2) (p2_mono (by decide))) (Nat.lt_of_lt_of_le (prod_lt a3 a4) (p2_mono (by decide)))]
  have e1 : mkRat (sm k fun k => y k * z k) (M * N) + mkRat ((mkRat (y k) M).num * (mkRat (z k) N).num) ((mkRat (y k) M).den * (mkRat (z k) N).den) = mkRat (sm (k + 1) fun k => y k * z k) (M * N) := by
    rw [← Rat.mul_def', Rat.mkRat_mul_mkRat, mk_add mn]
    rfl
  rw [e1]
  simp only [asgN, List.set_cons_zero, List.set_cons_succ]
theorem q_l_behind {n N M : Nat} {y z : Nat → Nat → Int} (s : Tb n N z) (t : Tb n M y) : w_l_behind [tabR n N z, tabR n M y] Q E = Q (tabR n (M * N) (mul n y z)) := by
  have hn := s.hn
  simp only [w_l_behind, en, List.map_cons, List.map_nil, List.length_cons, List.length_nil, Nat.reduceAdd, Nat.reduceSub, List.replicate, List.cons_append, List.nil_append, v_l_behind, tabR, tabF, sSeq' (a := wAsg _ _), sAsg', xBox, xLc, xRng1, xApp, xCons, xNil, xFN, xV0, xLenT, vec_len, wipe1, wipe0, List.set_cons_zero, List.set_cons_succ]
  rw [and_eq (small_nat (by omega)), Int.toNat_natCast, rngU_eq, vec_len, and_eq (by omega), lcV_vec (g := fun j => .lst (vec n fun i => R N (z i j))) fun j hj Q => ?_]
  · simp only [asgN, List.set_cons_zero, List.set_cons_succ, sSeq' (a := wOwn _ _), sOwn', oLst, xNil, sSeq' (a := wFor _ _ _), sFor', xSrc, xV1, seqT, vec_len]
    rw [and_eq (by simp), and_eq (by omega)]
    refine (forV_det (e := fun m o => [.va (.tup (vec n fun i => .tup (vec n fun j => R N (z i j)))), .va (.tup (vec n fun i => .tup (vec n fun j => R M (y i j)))), .va (.lst (vec n fun j => .lst (vec n fun i => R N (z i j)))), o, .un, .ow (vec m fun i => .tup (vec n fun j => R (M * N) (mul n y z i j))), .un]) (fun m o u => rfl) (fun i hi K N2 => ?_) .un).trans ?_
    · simp only [xAp5, vec_len, xL, xLc, xSrc, xV2, seqL, wipe1, wipe0, List.set_cons_zero, List.set_cons_succ, xTupL]
      rw [and_eq (by omega), and_eq (by omega), lcV_vec (g := fun j => R (M * N) (mul n y z i j)) fun j hj Q => ?_, app_vec (f := fun i => U.tup (vec n fun j => R (M * N) (mul n y z i j)))]
      simp only [List.set_cons_zero, List.set_cons_succ, xApp, xCons, xNil, xV3, xV6]
      exact q_entry (c := U.lst) (fun us k u h Q => xIxL h) (by omega) t.pos s.pos t.lt s.lt (fun k hk => t.nat hi hk) (fun k hk => s.nat hk hj)
    · simp only [xFo5, sRet', xApp, xCons, xNil, xFN, xV5, xTupleL]
  · simp only [List.set_cons_zero, List.set_cons_succ, xBox, xLc, xSrc, xV0, seqT, vec_len, wipe1, wipe0]
    rw [and_eq (by omega), lcV_vec (g := fun i => R N (z i j)) fun i hi Q => ?_]
    simp only [List.set_cons_zero, List.set_cons_succ, xOp, xV3, xV4]
    rw [ixV hj]
theorem one_vec {n : Nat} {i j : Nat} : U.int (if ((if (decide ((i : Int) = (j : Int))) = true then true else false) = true) then 1 else 0) = U.int (one i j) := by
  unfold one
  by_cases h : i = j
  · subst h; simp
  · have : ¬ (i : Int) = j := by omega
    simp [h, this]
/-- the law's own powers -/
theorem q_l_powered {n L r : Nat} {c : Nat → Nat → Int} (hn : 1 ≤ n ∧ n ≤ 8) (h0 : ∀ i j, i < n → j < n → 0 ≤ c j i) (hc : ∀ j, j < n → sm n (fun i => c j i) ≤ L) (hL : 0 < L) (hr : L ^ r < 2 ^ 1900) (hr2 : r < 1000) : w_l_powered [colsU n c, .int (L : Int), .int (r : Int)] Q E = Q (tabR n (L ^ r) (mpow n (fun i j => c j i) r)) := by
  have hc' : ∀ j, j < n → sm n (fun i => (fun i j => c j i) i j) ≤ L := hc
  have lr : ∀ m, m ≤ r → L ^ m < 2 ^ 1900 := fun m hm => lt_le (Nat.pow_le_pow_right hL hm) hr
  have i1 : ∀ {i j : Nat}, (if decide ((i : Int) = (j : Int)) = true then (1 : Int) else 0) = one i j := fun {i j} => by
    unfold one
    by_cases h : i = j
    · subst h; simp
    · have : ¬ (i : Int) = j := by omega
      simp [h, this]
  simp only [w_l_powered, en, List.map_cons, List.map_nil, List.length_cons, List.length_nil, Nat.reduceAdd, Nat.reduceSub, List.replicate, List.cons_append, List.nil_append, v_l_powered, colsU, sSeq' (a := wAsg _ _), sAsg', xBox, xLc, xRng1, xApp, xCons, xNil, xFN, xV0, xV3, xLenL, vec_len, wipe1, wipe0, asgN, List.set_cons_zero, List.set_cons_succ, xC]
  rw [and_eq (small_nat (by omega)), Int.toNat_natCast, rngU_eq, vec_len, and_eq (by omega), lcV_vec (g := fun j => .lst (vec n fun i => .int (one i j))) fun j hj Q => ?_]
  · simp only [asgN, List.set_cons_zero, List.set_cons_succ, sSeq' (a := wFor _ _ _), sFor', xRng1, xV2]
    rw [and_eq (small_nat (by omega)), Int.toNat_natCast, rngU_eq, vec_len, and_eq (by omega)]
    let mk : Nat → U := fun m => .lst (vec n fun j => .lst (vec n fun i => .int (mpow n (fun i j => c j i) m i j)))
    refine (forV_det (e := fun m o => [.va (colsU n c), .va (.int (L : Int)), .va (.int (r : Int)), .va (.int (n : Int)), .va (mk m), .un, .un, .va (.int ((L ^ m : Nat) : Int)), o, if m = 0 then .un else .va (mk m), if m = 0 then .un else .va (.lst (vec n fun i => .int (mpow n (fun i j => c j i) (m - 1) i (n - 1)))), .un]) (fun m o u => rfl) (fun m hm K N2 => ?_) .un).trans ?_
    · simp only [sSeq' (a := wOwn _ _), sOwn', oLst, xNil, List.set_cons_zero, List.set_cons_succ, sSeq' (a := wFor _ _ _), sFor', xSrc, xV4, mk, seqL, vec_len]
      rw [and_eq (by simp), and_eq (by omega)]
      refine (forV_det (e := fun j o => [.va (colsU n c), .va (.int (L : Int)), .va (.int (r : Int)), .va (.int (n : Int)), .va (mk m), .un, .un, .va (.int ((L ^ m : Nat) : Int)), .va (.int (m : Int)), .ow (vec j fun j => .lst (vec n fun i => .int (mpow n (fun i j => c j i) (m + 1) i j))), o, .un]) (fun m o u => rfl) (fun j hj K N2 => ?_) _).trans ?_
      · simp only [xAp9, vec_len, xBox, xLc, xRng1, xV3, wipe1, wipe0, List.set_cons_zero, List.set_cons_succ]
        rw [and_eq (by omega), and_eq (small_nat (by omega)), Int.toNat_natCast, rngU_eq, vec_len, and_eq (by omega), lcV_vec (g := fun i => .int (mpow n (fun i j => c j i) (m + 1) i j)) fun i hi Q => ?_, app_vec (f := fun j => U.lst (vec n fun i => .int (mpow n (fun i j => c j i) (m + 1) i j)))]
        simp only [List.set_cons_zero, List.set_cons_succ, xL, xLc, xRng1, xV3, wipe1, wipe0]
        rw [and_eq (small_nat (by omega)), Int.toNat_natCast, rngU_eq, vec_len, and_eq (by omega), lcV_vec (g := fun k => .int (c k i * mpow n (fun i j => c j i) m k j)) fun k hk Q => ?_, xSumV]
        · rfl
        · have b1 : (c k i).natAbs < 2 ^ 1900 := by
            have h1 := h0 i k hi hk
            have h2 := Int.le_trans (sm_mem (f := fun i => c k i) (fun i hi => h0 i k hi hk) hi) (hc k hk)
            have h3 := lr 1 (by omega)
            rw [Nat.pow_one] at h3
            refine Nat.lt_of_le_of_lt ?_ h3
            clear h3 hr lr
            have h4 : c k i ≤ L := h2
            omega
          have b2 := mpow_lt (n := n) (z := fun i j => c j i) h0 hc' (lr m (by omega)) hk hj
          simp only [List.set_cons_zero, List.set_cons_succ, xOp, xV0, xV5, xV10, xV11, colsU]
          rw [ixVL hk]
          rw [ixVL hi, ixVL hk, xMul (mulOk_of b1 b2 (by decide))]
      · have n0 : ¬ n = 0 := by omega
        have mo := mulOk_of (nc (lr m (by omega))) (nc (show L < 2 ^ 1900 by have := lr 1 (by omega); rwa [Nat.pow_one] at this)) (by decide)
        simp only [n0, if_false, sSeq', xFo9, sAsg', xV9, asgN, List.set_cons_zero, List.set_cons_succ, xOp, xV7, xV1, xMul mo]
        simp only [Nat.succ_ne_zero, if_false, Nat.add_sub_cancel, ← Int.natCast_mul, ← Nat.pow_succ]
    · have lr2 := lr r (Nat.le_refl _)
      simp only [sRet', xApp, xCons, xNil, xV4, xV7, xOp, xFN, xLst (show [U.int ((L ^ r : Nat) : Int)].length ≤ 16777216 by simp), xV3]
      rw [xMulL (by omega)]
      exact q_table_of (c := fun j i => mpow n (fun i j => c j i) r i j) (b := fun _ => L ^ r) (by omega) (fun _ _ => Nat.pow_pos hL) (fun _ _ => Nat.lt_of_lt_of_le lr2 (p2_mono (by decide)))
  · simp only [List.set_cons_zero, List.set_cons_succ, xBox, xLc, xRng1, xV3, wipe1, wipe0]
    rw [and_eq (small_nat (by omega)), Int.toNat_natCast, rngU_eq, vec_len, and_eq (by omega), lcV_vec (g := fun i => .int (one i j)) fun i hi Q => ?_]
    simp only [List.set_cons_zero, List.set_cons_succ, xApp, xCons, xNil, xFN, xOp, xV5, xV6, xEqI, xIntB, i1]
end MI.K02

set_option Elab.async false
set_option linter.all false
set_option maxRecDepth 100000
set_option maxHeartbeats 400000
set_option exponentiation.threshold 100000
namespace MI.K02
open PySem PySem.Spec PyProof.Rows L2 MI
variable {Q : U → Prop} {E : Str → U → Prop}
/-! what is the same -/
theorem eq_bl {a b : Bool} {Q : U → Prop} : vEqB false (.bl a) (.bl b) Q = Q (.bl (a == b)) := by
  have e : vEqB false (.bl a) (.bl b) Q = ((SeqAt.shaped (.bool a) = true ∧ SeqAt.shaped (.bool b) = true) ∧ Q (.bl (PyData.eqv (.bool a) (.bool b)))) := rfl
  rw [e, and_eq ⟨by simp [SeqAt.shaped, PyData.canLay0, PyData.depth], by simp [SeqAt.shaped, PyData.canLay0, PyData.depth]⟩]
  rfl
theorem q_same_int {k : Nat} {a b : Int} : w_same (k + 1) [.int a, .int b] Q E = Q (.bl (decide (a = b))) := by
  simp only [w_same, en, List.map_cons, List.map_nil, List.length_cons, List.length_nil, Nat.reduceAdd, Nat.reduceSub, List.replicate, List.cons_append, List.nil_append, v_same, sSeq', sIf', xTru, xUn, xV0, xV1, xTyI, ty7, ty11, ty3, xTr_bl, Bool.false_eq_true, if_false, sPass', sRet', xAndV, xB_bl, if_true, xNotV, Bool.not_false, xOp, xEqI]
theorem q_same_bl {k : Nat} {a b : Bool} : w_same (k + 1) [.bl a, .bl b] Q E = Q (.bl (a == b)) := by
  simp only [w_same, en, List.map_cons, List.map_nil, List.length_cons, List.length_nil, Nat.reduceAdd, Nat.reduceSub, List.replicate, List.cons_append, List.nil_append, v_same, sSeq', sIf', xTru, xUn, xV0, xV1, xTyB, ty8, ty5, xTr_bl, Bool.false_eq_true, if_false, sPass', if_true, sRet', xAndV, xB_bl, xOp, eq_bl]
theorem q_same_vec {k n : Nat} {f : Nat → U} (hn : n < 1000000) (h : ∀ i, i < n → ∀ Q : U → Prop, w_same (k + 1) [f i, f i] Q noE = Q (.bl true)) : w_same (k + 2) [.tup (vec n f), .tup (vec n f)] Q E = Q (.bl true) := by
  have e : w_same (k + 2) = wFn 3 (v_same (w_same (k + 1))) := rfl
  simp only [e, en, List.map_cons, List.map_nil, List.length_cons, List.length_nil, Nat.reduceAdd, Nat.reduceSub, List.replicate, List.cons_append, List.nil_append, v_same, sSeq', sIf', xTru, xUn, xV0, xV1, xTyT, ty1, xTr_bl, if_true, xOr, xNot, Bool.not_true, Bool.false_eq_true, if_false, xTst, xOp, xApp, xCons, xNil, xFN, xLenT, vec_len, xNeI, decide_true, xB_bl, sPass', sRet', xL, xLc, xRng1, wipe1, wipe0, List.set_cons_zero, List.set_cons_succ]
  rw [and_eq (small_nat (by omega)), Int.toNat_natCast, rngU_eq, vec_len, and_eq (by omega), lcV_vec (g := fun _ => .bl true) fun i hi Q => ?_, xAllV, all_true fun _ _ => rfl]
  simp only [List.set_cons_zero, List.set_cons_succ, xApp, xCons, xNil, xOp, xV0, xV1, xV2]
  rw [ixV hi, ixV hi, h i hi]
theorem F_vec (q : Rat) : F q = .tup (vec 2 fun i => if i = 0 then .int q.num else .int q.den) := rfl
theorem q_same_F {k : Nat} {q : Rat} : w_same (k + 2) [F q, F q] Q E = Q (.bl true) := by
  rw [F_vec]
  refine q_same_vec (by decide) fun i hi Q => ?_
  by_cases h : i = 0
  · subst h; rw [if_pos rfl, q_same_int]; simp
  · rw [if_neg h, q_same_int]; simp
theorem q_same_tab {n : Nat} {t : Nat → Nat → Rat} (hn : n < 1000000) : w_same 8 [tabF n t, tabF n t] Q E = Q (.bl true) :=
  q_same_vec (k := 6) hn fun i hi Q => q_same_vec (k := 5) hn fun j hj Q => q_same_F (k := 4)
/-! whole -/
theorem eq_F {p q : Rat} {Q : U → Prop} : vEqB false (F p) (F q) Q = Q (.bl (decide (p = q))) := by
  have e : vEqB false (F p) (F q) Q = ((SeqAt.shaped (.tuple [.int p.num, .int p.den]) = true ∧ SeqAt.shaped (.tuple [.int q.num, .int q.den]) = true) ∧ Q (.bl (PyData.eqv (.tuple [.int p.num, .int p.den]) (.tuple [.int q.num, .int q.den])))) := rfl
  rw [e, and_eq ⟨by simp [SeqAt.shaped, PyData.canLay0, PyData.canLayAll0, PyData.depth, PyData.depthAll], by simp [SeqAt.shaped, PyData.canLay0, PyData.canLayAll0, PyData.depth, PyData.depthAll]⟩]
  congr 2
  simp only [PyData.eqv, PyData.eqvAll, Bool.and_true]
  by_cases h : p = q
  · subst h; simp
  · rw [decide_eq_false h]
    by_cases h1 : p.num = q.num
    · have : ¬ (p.den : Int) = q.den := fun z => h (Rat.ext h1 (by omega))
      simp [h1]
      omega
    · simp [h1]
theorem mk_one {N : Nat} (h : 0 < N) {z : Int} : mkRat z N = mkRat 1 1 ↔ z = N := by
  rw [Rat.mkRat_eq_iff (by omega) (by decide)]
  omega
theorem one_F : U.tup u_ONE = F (mkRat 1 1) := by
  have : mkRat 1 1 = 1 := by decide
  rw [this]
  rfl
theorem q_keeps_all {n N : Nat} {z : Nat → Nat → Int} (t : Tb n N z) : w_keeps_all [tabR n N z] Q E = Q (.bl ((List.range n).all fun j => decide (sm n (fun i => z i j) = N))) := by
  have hn := t.hn
  simp only [w_keeps_all, en, List.map_cons, List.map_nil, List.length_cons, List.length_nil, Nat.reduceAdd, Nat.reduceSub, List.replicate, List.cons_append, List.nil_append, v_keeps_all, sSeq', sExpr', xApp, xCons, xNil, xV0, t.check, sRet', xL, xLc, xSrc]
  rw [q_column_sums t.pos (Nat.lt_of_lt_of_le t.lt (p2_mono (by decide))) (by omega) fun i j hi hj => Nat.lt_of_lt_of_le (t.nat hi hj) (p2_mono (by decide))]
  simp only [seqL, vec_len, wipe1, wipe0, List.set_cons_zero, List.set_cons_succ]
  rw [and_eq (by omega), lcV_vec (g := fun j => .bl (decide (sm n (fun i => z i j) = N))) fun j hj Q => ?_, xAllV]
  simp only [List.set_cons_zero, List.set_cons_succ, xOp, xV1, xC, one_F, eq_F, mk_one t.pos]
theorem q_still {n : Nat} (hn : 1 ≤ n ∧ n ≤ 8) : w_still [.int (n : Int)] Q E = Q (tabR n 1 one) := by
  have h1 : (1 : Int) ≤ n := by omega
  have h2 : (n : Int) ≤ 8 := by omega
  simp only [w_still, en, List.map_cons, List.map_nil, List.length_cons, List.length_nil, Nat.reduceAdd, Nat.reduceSub, List.replicate, List.append_nil, v_still, sSeq', sExpr', xApp, xCons, xNil, xV0, w_check_casks, v_check_casks, sIf', xNot, xTst, xChain, xC, xLe, h1, h2, decide_true, xB_bl, if_true, Bool.not_true, Bool.false_eq_true, if_false, sPass', sRet', q_still_grid (show n ≤ 16 by omega)]
  exact q_rows_of (by omega) (by decide) (by decide +kernel)
theorem q_still_bad {i : Int} (h : ¬ (1 ≤ i ∧ i ≤ 8)) : w_still [.int i] Q E = E "InvalidNumber" (.int i) := by
  by_cases h1 : 1 ≤ i
  · have h2 : ¬ i ≤ 8 := fun z => h ⟨h1, z⟩
    simp only [w_still, en, List.map_cons, List.map_nil, List.length_cons, List.length_nil, Nat.reduceAdd, Nat.reduceSub, List.replicate, List.append_nil, v_still, sSeq', sExpr', xApp, xCons, xNil, xV0, w_check_casks, v_check_casks, sIf', xNot, xTst, xChain, xC, xLe, h1, h2, decide_true, decide_false, xB_bl, if_true, Bool.not_false, sRaise']
  · simp only [w_still, en, List.map_cons, List.map_nil, List.length_cons, List.length_nil, Nat.reduceAdd, Nat.reduceSub, List.replicate, List.append_nil, v_still, sSeq', sExpr', xApp, xCons, xNil, xV0, w_check_casks, v_check_casks, sIf', xNot, xTst, xChain, xC, xLe, h1, decide_false, xB_bl, Bool.false_eq_true, if_false, if_true, Bool.not_false, sRaise']
/-! errors caught -/
theorem catE {c : Str} (h : c ∈ errNames) : cat_CaskError c = some true := by
  unfold cat_CaskError
  rw [if_pos h]
theorem q_caught0 {a b : U} {c : Str} {u : U} (h : ∀ Q E, w_behind [a, b] Q E = E c u) (hc : c ∈ errNames) : w_caught [.int 0, a, b] Q E = Q (.exc c u) := by
  simp only [w_caught, en, List.map_cons, List.map_nil, List.length_cons, List.length_nil, Nat.reduceAdd, Nat.reduceSub, List.replicate, List.cons_append, List.nil_append, v_caught, sSeq', sAsg', xC, asgN, List.set_cons_zero, List.set_cons_succ, sTry', sIf', xTst, xOp, xV0, xEqI, decide_true, xB_bl, if_true, sExpr', xApp, xCons, xNil, xV1, xV2, h, catE hc, xV4, sRet', xV3]
theorem q_caught1 {a b : U} {c : Str} {u : U} (h : ∀ Q E, w_power [a, b] Q E = E c u) (hc : c ∈ errNames) : w_caught [.int 1, a, b] Q E = Q (.exc c u) := by
  simp only [w_caught, en, List.map_cons, List.map_nil, List.length_cons, List.length_nil, Nat.reduceAdd, Nat.reduceSub, List.replicate, List.cons_append, List.nil_append, v_caught, sSeq', sAsg', xC, asgN, List.set_cons_zero, List.set_cons_succ, sTry', sIf', xTst, xOp, xV0, xEqI, decide_true, xB_bl, if_true, sExpr', xApp, xCons, xNil, xV1, xV2, h, catE hc, xV4, sRet', xV3, show ¬ (1 : Int) = 0 by decide, decide_false, Bool.false_eq_true, if_false]
theorem q_caught2 {a b : U} {c : Str} {u : U} (h : ∀ Q E, w_keeps_all [a] Q E = E c u) (hc : c ∈ errNames) : w_caught [.int 2, a, b] Q E = Q (.exc c u) := by
  simp only [w_caught, en, List.map_cons, List.map_nil, List.length_cons, List.length_nil, Nat.reduceAdd, Nat.reduceSub, List.replicate, List.cons_append, List.nil_append, v_caught, sSeq', sAsg', xC, asgN, List.set_cons_zero, List.set_cons_succ, sTry', sIf', xTst, xOp, xV0, xEqI, decide_true, xB_bl, if_true, sExpr', xApp, xCons, xNil, xV1, xV2, h, catE hc, xV4, sRet', xV3, show ¬ (2 : Int) = 0 by decide, show ¬ (2 : Int) = 1 by decide, decide_false, Bool.false_eq_true, if_false]
theorem q_caught3 {a b : U} {c : Str} {u : U} (h : ∀ Q E, w_still [a] Q E = E c u) (hc : c ∈ errNames) : w_caught [.int 3, a, b] Q E = Q (.exc c u) := by
  simp only [w_caught, en, List.map_cons, List.map_nil, List.length_cons, List.length_nil, Nat.reduceAdd, Nat.reduceSub, List.replicate, List.cons_append, List.nil_append, v_caught, sSeq', sAsg', xC, asgN, List.set_cons_zero, List.set_cons_succ, sTry', sIf', xTst, xOp, xV0, xEqI, decide_true, xB_bl, if_true, sExpr', xApp, xCons, xNil, xV1, xV2, h, catE hc, xV4, sRet', xV3, show ¬ (3 : Int) = 0 by decide, show ¬ (3 : Int) = 1 by decide, show ¬ (3 : Int) = 2 by decide, decide_false, Bool.false_eq_true, if_false]
theorem q_caught_none {a b r : U} (h : ∀ Q E, w_behind [a, b] Q E = Q r) : w_caught [.int 0, a, b] Q E = Q .non := by
  simp only [w_caught, en, List.map_cons, List.map_nil, List.length_cons, List.length_nil, Nat.reduceAdd, Nat.reduceSub, List.replicate, List.cons_append, List.nil_append, v_caught, sSeq', sAsg', xC, asgN, List.set_cons_zero, List.set_cons_succ, sTry', sIf', xTst, xOp, xV0, xEqI, decide_true, xB_bl, if_true, sExpr', xApp, xCons, xNil, xV1, xV2, h, sRet', xV3]
end MI.K02

set_option Elab.async false
set_option linter.all false
set_option maxRecDepth 100000
set_option maxHeartbeats 400000
set_option exponentiation.threshold 100000
namespace MI.K02
open PySem PySem.Spec PyProof.Rows L2 MI
variable {Q : U → Prop} {E : Str → U → Prop}
/-! what is drawn -/
theorem drop_eq {m : Int} (h : 0 < m) (h2 : m.natAbs < 2 ^ 8000) (q : ∀ n : Int, 0 ≤ n → n < m → Q (.int n)) : w_drop [.jug, .int m] Q E := ⟨⟨h, h2⟩, q⟩
theorem drop_small {m : Int} (h : 0 < m) (h2 : m < 1000000000) (q : ∀ n : Nat, (n : Int) < m → Q (.int (n : Int))) : w_drop [.jug, .int m] Q E := drop_eq h (Nat.lt_of_lt_of_le (show m.natAbs < 2 ^ 100 by omega) (p2_mono (by decide))) fun n h0 h1 => by
  obtain ⟨k, rfl⟩ : ∃ k : Nat, n = k := ⟨n.toNat, by omega⟩
  exact q k h1
theorem ixN_vec {n k : Nat} (h : k < n) : ixN n (k : Int) = some k := ixN_ok h
theorem mod_ne {n s k m : Nat} (h : m < k) (hk : k < n) : (s + k) % n ≠ (s + m) % n := by
  intro z
  have h1 : (s + k) % n = ((s + m) + (k - m)) % n := by congr 1; omega
  have h2 := Nat.div_add_mod (s + k) n
  have h3 := Nat.div_add_mod (s + m) n
  have h4 : n * ((s + k) / n) = n * ((s + m) / n) + (k - m) := by omega
  have h5 : (s + m) / n ≤ (s + k) / n := Nat.div_le_div_right (by omega)
  obtain ⟨d, hd⟩ : ∃ d, (s + k) / n = (s + m) / n + d := ⟨(s + k) / n - (s + m) / n, by omega⟩
  rw [hd, Nat.mul_add] at h4
  cases d with
  | zero => omega
  | succ d =>
    rw [Nat.mul_succ] at h4
    omega
structure Col (n L : Nat) (p : Nat → Int) : Prop where
  zero : ∀ i, i < n → 0 ≤ p i
  sum : sm n p ≤ L
def colI (n L s : Nat) (way : Int) (m : Nat) (η : Env) : Prop := ∃ (p : Nat → Int) (left : Int) (o : UO), η = [.va .jug, .va (.int (n : Int)), .va (.int (L : Int)), .ow (vec n fun i => .int (p i)), .va (.int way), .va (.int (s : Int)), .va (.int left), o] ∧ (∀ i, i < n → 0 ≤ p i) ∧ 0 ≤ left ∧ sm n p + left = L ∧ ∀ k, m ≤ k → k < n → p ((s + k) % n) = 0
theorem set_int {n i : Nat} {p : Nat → Int} {v : Int} : ((vec n fun k => U.int (p k)).set i (.int v)) = vec n fun k => U.int (if k = i then v else p k) := by
  rw [vec_set]
  exact vec_congr fun k hk => by by_cases h : k = i <;> simp [h]
theorem q_column {n L : Nat} (hn : 1 ≤ n ∧ n ≤ 8) (hL : L < 2 ^ 400) (q : ∀ p, Col n L p → Q (.lst (vec n fun i => .int (p i)))) : w_column [.jug, .int (n : Int), .int (L : Int)] Q E := by
  simp only [w_column, en, List.map_cons, List.map_nil, List.length_cons, List.length_nil, Nat.reduceAdd, Nat.reduceSub, List.replicate, List.cons_append, List.nil_append, v_column, sSeq' (a := wOwn _ _), sOwn', oMul, xApp, xCons, xNil, xFN, xC, xLst (show [U.int 0].length ≤ 16777216 by simp), xV1, List.set_cons_zero, List.set_cons_succ]
  rw [Int.toNat_natCast, rep_vec]
  refine ⟨⟨by simp; omega, by omega⟩, ?_⟩
  simp only [sSeq' (a := wAsg _ _), sAsg', xApp, xCons, xNil, xV0, xC]
  refine drop_small (by decide) (by decide) fun way hw => ?_
  simp only [asgN, List.set_cons_zero, List.set_cons_succ, xV1, xV0]
  refine drop_small (by omega) (by omega) fun s hs => ?_
  have hs' : s < n := by omega
  simp only [asgN, List.set_cons_zero, List.set_cons_succ, sSeq' (a := wIf _ _ _), sIf', xTst, xOp, xV4, xC, xEqI, xB_bl]
  have z0 : sm n (fun _ => (0 : Int)) = 0 := sm_zero
  have fin : ∀ (p : Nat → Int) (left : Int) (o : UO), (∀ i, i < n → 0 ≤ p i) → 0 ≤ left → sm n p + left = L →
      wSeq (wIf (vTst (vOp vGt (vV 4) (vC (.int 3)))) (wSetO 3 (vV 5) (vOp vAdd (vIxO 3 (vV 5)) (vV 6))) wPass)
    (wFrz 3 (wRet (vV 3))) [.va .jug, .va (.int (n : Int)), .va (.int (L : Int)), .ow (vec n fun i => .int (p i)), .va (.int (way : Int)), .va (.int (s : Int)), .va (.int left), o] (fun _ => Q .non) Q (fun c u _ => E c u) (fun _ => False) (fun _ => False) := by
    intro p left o h0 hl hsum
    simp only [sSeq', sIf', xTst, xOp, xV4, xC, xGt, xB_bl]
    by_cases h3 : (3 : Int) < way
    · simp only [h3, decide_true, if_true, xSe3, xOp, xIo3, xV5, xV6, vec_len, ixN_vec hs', atI_ok (vec_get (f := fun i => U.int (p i)) hs'), xAdd, set_int, xFo3, sRet', xV3]
      refine q _ ⟨fun i hi => ?_, ?_⟩
      · by_cases e : i = s
        · subst e; simp only [if_true]; have := h0 i hi; omega
        · simp only [e, if_false]; exact h0 i hi
      · rw [sm_upd hs']; omega
    · simp only [h3, decide_false, Bool.false_eq_true, if_false, sPass', xFo3, sRet', xV3]
      exact q p ⟨h0, by omega⟩
  by_cases h0 : (way : Int) = 0
  · simp only [h0, decide_true, if_true, sSeq' (a := wSetO _ _ _), xSe3, xV2, xV5, vec_len, ixN_vec hs', set_int (p := fun _ => 0), xFo3, sRet', xV3]
    refine q _ ⟨fun i hi => ?_, ?_⟩
    · by_cases e : i = s <;> simp [e]
    · rw [sm_upd hs', z0]; omega
  · simp only [h0, decide_false, Bool.false_eq_true, if_false, sPass', sSeq' (a := wAsg _ _), sAsg', xV2, asgN, List.set_cons_zero, List.set_cons_succ, sSeq' (a := wFor _ _ _), sFor', xRng1, xOp, xV1, xApp, xCons, xNil, xFN, xV4, xC, xGt, xIntB]
    have cnt : ∃ m : Nat, (m = 0 ∨ m = n) ∧ ∀ (Q : U → Prop), vMul (.int (n : Int)) (.int (if decide ((1 : Int) < way) = true then 1 else 0)) Q = Q (.int (m : Int)) := by
      by_cases h1 : (1 : Int) < way
      · refine ⟨n, .inr rfl, fun Q => ?_⟩
        rw [if_pos (by simpa using h1), xMul (mulOk_of (m := 10) (n := 10) (by omega) (by decide) (by decide)), Int.mul_one]
      · refine ⟨0, .inl rfl, fun Q => ?_⟩
        rw [if_neg (by simpa using h1), xMul (mulOk_of (m := 10) (n := 10) (by omega) (by decide) (by decide)), Int.mul_zero]
        rfl
    obtain ⟨m, hm, em⟩ := cnt
    have hmn : m ≤ n := by omega
    rw [em]
    show _ ∧ _
    refine ⟨small_nat (by omega), ?_⟩
    rw [Int.toNat_natCast, rngU_eq]
    refine ⟨by rw [vec_len]; omega, forV_some (I := colI n L s way) ⟨fun _ => 0, L, .un, rfl, fun _ _ => Int.le_refl _, by omega, by rw [z0]; omega, fun _ _ _ => rfl⟩ (fun k hk η hI K N2 hK => ?_) (fun η hI => ?_)⟩
    · obtain ⟨p, left, o, rfl, p0, l0, hsum, hz⟩ := hI
      have hkn : k < n := by omega
      have il : (s + k) % n < n := Nat.mod_lt _ (by omega)
      have im : ((s : Int) + (k : Int)).fmod (n : Int) = (((s + k) % n : Nat) : Int) := by
        rw [Int.fmod_eq_emod_of_nonneg _ (by omega), Int.natCast_emod, Int.natCast_add]
      have lb : (left + 1).natAbs < 2 ^ 8000 := by
        have sp := sm_nonneg (n := n) (f := p) p0
        have : (left + 1).natAbs ≤ L + 1 := by omega
        have h8 : 2 ^ 400 + 1 ≤ 2 ^ 8000 := by decide +kernel
        omega
      simp only [List.set_cons_zero, List.set_cons_succ, sSeq', xSe3, xApp, xCons, xNil, xV0, xOp, xV6, xC, xAdd]
      refine drop_eq (by omega) lb fun v v0 v1 => ?_
      simp only [xFN, xV5, xV7, xAdd, xInt, xV1, xMod (show (n : Int) ≠ 0 by omega), im, vec_len, ixN_vec il, set_int, sAsg', xOp, xV6, xIo3, xApp, xCons, xNil, atI_ok (vec_get (f := fun i => U.int (if i = (s + k) % n then v else p i)) il), if_true, xSub, asgN, List.set_cons_zero, List.set_cons_succ]
      refine hK _ ⟨_, _, _, rfl, fun i hi => ?_, by omega, ?_, fun j hj hjn => ?_⟩
      · by_cases e : i = (s + k) % n
        · simp only [e, if_true]; exact v0
        · simp only [e, if_false]; exact p0 i hi
      · rw [sm_upd il, hz k (Nat.le_refl _) hkn]; omega
      · rw [if_neg (mod_ne (by omega) hjn)]
        exact hz j (by omega) hjn
    · obtain ⟨p, left, o, rfl, p0, l0, hsum, hz⟩ := hI
      exact fin p left o p0 l0 hsum
end MI.K02

set_option Elab.async false
set_option linter.all false
set_option maxRecDepth 100000
set_option maxHeartbeats 400000
set_option exponentiation.threshold 100000
namespace MI.K02
open PySem PySem.Spec PyProof.Rows L2 MI
variable {Q : U → Prop} {E : Str → U → Prop}
/-- all numbers below divide this one -/
abbrev NN : Nat := 1200000000000000000000000000000000000000
theorem NN_lt : NN < 2 ^ 400 := by decide +kernel
theorem p9 : vPow (.int 10) (.int 9) Q = Q (.int 1000000000) := (xPow (by decide)).trans rfl
theorem p38 : vPow (.int 10) (.int 38) Q = Q (.int 100000000000000000000000000000000000000) := (xPow (by decide)).trans rfl
theorem q_cols {n : Nat} {b : Nat → Nat} {η : Env} {elt : VT U} {t : Nat} {f : Nat → U} {QL : List U → Prop} (he : ∀ j, j < n → ∀ Q : U → Prop, (∀ p, Col n (b j) p → Q (.lst (vec n fun i => .int (p i)))) → elt (η.set t (.va (f j))) Q noE) (q : ∀ c : Nat → Nat → Int, (∀ j, j < n → Col n (b j) (c j)) → QL (vec n fun j => .lst (vec n fun i => .int (c j i)))) : lcV (.nm t) vYes elt η (vec n f) QL := by
  refine lcV_some (G := fun j u => ∃ p, Col n (b j) p ∧ u = .lst (vec n fun i => .int (p i))) (fun j hj Q hq => he j hj Q fun p hp => hq _ ⟨p, hp, rfl⟩) fun g hg => ?_
  have : ∀ j, ∃ p, j < n → Col n (b j) p ∧ g j = .lst (vec n fun i => .int (p i)) := fun j => by
    by_cases hj : j < n
    · obtain ⟨p, hp⟩ := hg j hj
      exact ⟨p, fun _ => hp⟩
    · exact ⟨fun _ => 0, fun z => absurd z hj⟩
  obtain ⟨c, hc⟩ := Classical.skolem.mp this
  rw [vec_congr fun j hj => (hc j hj).2]
  exact q c fun j hj => (hc j hj).1
theorem q_draw {n : Nat} (hn : 1 ≤ n ∧ n ≤ 8) (q : ∀ (c : Nat → Nat → Int) (b : Nat → Nat), (∀ j, j < n → 0 < b j ∧ b j ∣ NN) → (∀ j, j < n → Col n (b j) (c j)) → Q (.tup [colsU n c, .lst (vec n fun j => .int (b j : Int))])) : w_draw [.jug, .int (n : Int)] Q E := by
  simp only [w_draw, en, List.map_cons, List.map_nil, List.length_cons, List.length_nil, Nat.reduceAdd, Nat.reduceSub, List.replicate, List.cons_append, List.nil_append, v_draw, sSeq' (a := wAsg _ _), sAsg', xBox, xLc, xRng1, xV1, wipe1, wipe0, List.set_cons_zero, List.set_cons_succ]
  refine ⟨small_nat (by omega), ?_⟩
  rw [Int.toNat_natCast, rngU_eq]
  refine ⟨by rw [vec_len]; omega, lcV_some (G := fun j u => ∃ b : Nat, (0 < b ∧ b ∣ NN) ∧ u = .int (b : Int)) (fun j hj Q hq => ?_) fun g hg => ?_⟩
  · have h6 : ∃ m : Nat, m ≤ 6 ∧ 4 ≤ m ∧ ∀ Q : U → Prop, vMul (.int 2) (.int (if decide ((n : Int) > 5) = true then 1 else 0)) (fun y => vSub (.int 6) y Q) = Q (.int (m : Int)) := by
      by_cases h : (n : Int) > 5
      · refine ⟨4, by decide, by decide, fun Q => ?_⟩
        rw [if_pos (by simpa using h), xMul (mulOk_of (m := 10) (n := 10) (by decide) (by decide) (by decide))]
        rfl
      · refine ⟨6, by decide, by decide, fun Q => ?_⟩
        rw [if_neg (by simpa using h), xMul (mulOk_of (m := 10) (n := 10) (by decide) (by decide) (by decide))]
        rfl
    obtain ⟨m, m1, m2, em⟩ := h6
    simp only [List.set_cons_zero, List.set_cons_succ, xOp, xApp, xCons, xNil, xFN, xC, p9, p38, xLst (show ([U.int 2, U.int 3, U.int 4, U.int 12, U.int 1000000000, U.int 100000000000000000000000000000000000000] : List U).length ≤ 16777216 by simp), xV0, xV1, xGt, xIntB]
    have em' := em
    simp only [gt_iff_lt] at em'
    rw [em']
    refine drop_small (by omega) (by omega) fun d hd => ?_
    have d6 : d = 0 ∨ d = 1 ∨ d = 2 ∨ d = 3 ∨ d = 4 ∨ d = 5 := by omega
    have ix : ∀ (k : Nat) (b : Nat), ([U.int 2, U.int 3, U.int 4, U.int 12, U.int 1000000000, U.int 100000000000000000000000000000000000000] : List U)[k]? = some (.int (b : Int)) → (0 < b ∧ b ∣ NN) → vIx (.lst [.int 2, .int 3, .int 4, .int 12, .int 1000000000, .int 100000000000000000000000000000000000000]) (.int (k : Int)) Q := fun k b h h2 => by
      rw [xIxL h]
      exact hq _ ⟨b, h2, rfl⟩
    rcases d6 with rfl | rfl | rfl | rfl | rfl | rfl
    · exact ix 0 2 rfl ⟨by decide, by decide⟩
    · exact ix 1 3 rfl ⟨by decide, by decide⟩
    · exact ix 2 4 rfl ⟨by decide, by decide⟩
    · exact ix 3 12 rfl ⟨by decide, by decide⟩
    · exact ix 4 1000000000 rfl ⟨by decide, by decide⟩
    · exact ix 5 100000000000000000000000000000000000000 rfl ⟨by decide, by decide⟩
  · have : ∀ j, ∃ b : Nat, j < n → (0 < b ∧ b ∣ NN) ∧ g j = .int (b : Int) := fun j => by
      by_cases hj : j < n
      · obtain ⟨p, hp⟩ := hg j hj
        exact ⟨p, fun _ => hp⟩
      · exact ⟨0, fun z => absurd z hj⟩
    obtain ⟨b, hb⟩ := Classical.skolem.mp this
    rw [vec_congr fun j hj => (hb j hj).2]
    simp only [asgN, List.set_cons_zero, List.set_cons_succ, sSeq' (a := wAsg _ _), sAsg', xBox, xLc, xSrc, xV2, seqL, wipe1, wipe0]
    refine ⟨by rw [vec_len]; omega, q_cols (b := b) (fun j hj Q hq => ?_) fun c hc => ?_⟩
    · simp only [List.set_cons_zero, List.set_cons_succ, xApp, xCons, xNil, xV0, xV1, xV5]
      exact q_column hn (Nat.lt_of_le_of_lt (Nat.le_of_dvd (by decide) (hb j hj).1.2) NN_lt) hq
    · simp only [asgN, List.set_cons_zero, List.set_cons_succ, sRet', xApp, xCons, xNil, xFN, xV4, xV2, xTup2]
      exact q c b (fun j hj => (hb j hj).1) hc
/-- a table of what was drawn -/
theorem tab_drawn {n : Nat} {c : Nat → Nat → Int} {b : Nat → Nat} (hn : 1 ≤ n ∧ n ≤ 8) (hb : ∀ j, j < n → 0 < b j ∧ b j ∣ NN) (hc : ∀ j, j < n → Col n (b j) (c j)) : ∃ (z : Nat → Nat → Int) (K : Nat → Nat), Tb n NN z ∧ (∀ j, j < n → NN = b j * K j ∧ 0 < K j) ∧ (∀ i j, z i j = c j i * (K j : Int)) ∧ (∀ i j, i < n → j < n → mkRat (c j i) (b j) = mkRat (z i j) NN) ∧ (∀ j, j < n → (sm n (fun i => z i j) = NN ↔ sm n (c j) = b j)) ∧ ∀ (Q : U → Prop) (E : Str → U → Prop), w_table_of [colsU n c, .lst (vec n fun j => .int (b j : Int))] Q E = Q (tabR n NN z) := by
  obtain ⟨K, hK⟩ : ∃ K : Nat → Nat, ∀ j, j < n → NN = b j * K j ∧ 0 < K j := ⟨fun j => NN / b j, fun j hj => ⟨(Nat.mul_div_cancel' (hb j hj).2).symm, Nat.div_pos (Nat.le_of_dvd (by decide) (hb j hj).2) (hb j hj).1⟩⟩
  have lb : ∀ j, j < n → b j < 2 ^ 4000 := fun j hj => Nat.lt_of_le_of_lt (Nat.le_of_dvd (by decide) (hb j hj).2) (Nat.lt_of_lt_of_le NN_lt (p2_mono (by decide)))
  have sme : ∀ j, sm n (fun i => c j i * (K j : Int)) = sm n (c j) * (K j : Int) := fun j => sm_mulr
  have ce : ∀ j, j < n → (NN : Int) = (b j : Int) * (K j : Int) := fun j hj => by rw [← Int.natCast_mul, ← (hK j hj).1]
  have mk : ∀ i j, i < n → j < n → mkRat (c j i) (b j) = mkRat (c j i * (K j : Int)) NN := fun i j hi hj => by
    rw [(hK j hj).1]
    exact (mk_cancel (hK j hj).2).symm
  refine ⟨fun i j => c j i * (K j : Int), K, ⟨hn, by decide, NN_lt, fun i j hi hj => Int.mul_nonneg ((hc j hj).zero i hi) (Int.natCast_nonneg _), fun j hj => ?_⟩, hK, fun _ _ => rfl, mk, fun j hj => ?_, fun Q E => ?_⟩
  · rw [sme, ce j hj]
    exact Int.mul_le_mul_of_nonneg_right (hc j hj).sum (Int.natCast_nonneg _)
  · show sm n (fun i => c j i * (K j : Int)) = NN ↔ _
    rw [sme, ce j hj]
    have := (hK j hj).2
    constructor
    · intro h; exact Int.eq_of_mul_eq_mul_right (by omega) h
    · intro h; rw [h]
  · rw [q_table_of (by omega) (fun j hj => (hb j hj).1) lb]
    congr 1
    unfold tabR tabF
    congr 1
    refine vec_congr fun i hi => ?_
    congr 1
    exact vec_congr fun j hj => by
      show F (mkRat (c j i) (b j)) = F (mkRat (c j i * (K j : Int)) NN)
      rw [mk i j hi hj]
end MI.K02

set_option Elab.async false
set_option linter.all false
set_option maxRecDepth 100000
set_option maxHeartbeats 400000
set_option exponentiation.threshold 100000
namespace MI.K02
open PySem PySem.Spec PyProof.Rows L2 MI
variable {Q : U → Prop} {E : Str → U → Prop}
theorem xAddT {xs ys : List U} (h : xs.length + ys.length ≤ 16777216) : vAdd (.tup xs) (.tup ys) Q = Q (.tup (xs ++ ys)) := propext ⟨fun z => z.2, fun z => ⟨h, z⟩⟩
theorem xAddL {xs ys : List U} (h : xs.length + ys.length ≤ 16777216) : vAdd (.lst xs) (.lst ys) Q = Q (.lst (xs ++ ys)) := propext ⟨fun z => z.2, fun z => ⟨h, z⟩⟩
/-! sizes -/
def Ent (u : U) : Prop := dep 5 u ∧ Pd 6 1 300 u
def RowOk (u : U) : Prop := dep 6 u ∧ Pd 17 2 2709 u
def TabOk (u : U) : Prop := dep 7 u ∧ Pd 28 3 24390 u
theorem pd_tup' {f d w m : Nat} {us : List U} (h : ∀ x ∈ us, Pd f d w x) (hm : us.length ≤ m) : Pd (f + m + 2) (d + 1) (m * (w + 1)) (.tup us) := (pd_tup h).le (by omega) (by omega) (Nat.mul_le_mul_right _ hm)
theorem pd_lst' {f d w m : Nat} {us : List U} (h : ∀ x ∈ us, Pd f d w x) (hm : us.length ≤ m) : Pd (f + m + 2) (d + 1) (m * (w + 1)) (.lst us) := (pd_lst h).le (by omega) (by omega) (Nat.mul_le_mul_right _ hm)
theorem row_tup {us : List U} (h : ∀ x ∈ us, Ent x) (hm : us.length ≤ 9) : RowOk (.tup us) := ⟨⟨by omega, fun x hx => (h x hx).1⟩, pd_tup' (fun x hx => (h x hx).2) hm⟩
theorem row_lst {us : List U} (h : ∀ x ∈ us, Ent x) (hm : us.length ≤ 9) : RowOk (.lst us) := ⟨⟨by omega, fun x hx => (h x hx).1⟩, pd_lst' (fun x hx => (h x hx).2) hm⟩
theorem tab_tup {us : List U} (h : ∀ x ∈ us, RowOk x) (hm : us.length ≤ 9) : TabOk (.tup us) := ⟨⟨by omega, fun x hx => (h x hx).1⟩, pd_tup' (fun x hx => (h x hx).2) hm⟩
theorem tab_lst {us : List U} (h : ∀ x ∈ us, RowOk x) (hm : us.length ≤ 9) : TabOk (.lst us) := ⟨⟨by omega, fun x hx => (h x hx).1⟩, pd_lst' (fun x hx => (h x hx).2) hm⟩
theorem ent_pair {a b : Int} (ha : a.natAbs < 2 ^ 140) (hb : b.natAbs < 2 ^ 140) : Ent (.tup [.int a, .int b]) := ⟨⟨by simp, fun x hx => by
    simp only [List.mem_cons, List.not_mem_nil, or_false] at hx
    rcases hx with rfl | rfl <;> trivial⟩, (pd_tup' (m := 2) (fun x hx => by
    simp only [List.mem_cons, List.not_mem_nil, or_false] at hx
    rcases hx with rfl | rfl
    · exact pd_int ha
    · exact pd_int hb) (by simp)).le (by decide) (by decide) (by decide)⟩
theorem ent_pairL {a b : Int} (ha : a.natAbs < 2 ^ 140) (hb : b.natAbs < 2 ^ 140) : Ent (.lst [.int a, .int b]) := ⟨⟨by simp, fun x hx => by
    simp only [List.mem_cons, List.not_mem_nil, or_false] at hx
    rcases hx with rfl | rfl <;> trivial⟩, (pd_lst' (m := 2) (fun x hx => by
    simp only [List.mem_cons, List.not_mem_nil, or_false] at hx
    rcases hx with rfl | rfl
    · exact pd_int ha
    · exact pd_int hb) (by simp)).le (by decide) (by decide) (by decide)⟩
theorem ent_one {a : Int} (ha : a.natAbs < 2 ^ 140) : Ent (.tup [.int a]) := ⟨⟨by simp, fun x hx => by
    simp only [List.mem_cons, List.not_mem_nil, or_false] at hx
    rcases hx with rfl; trivial⟩, (pd_tup' (m := 2) (fun x hx => by
    simp only [List.mem_cons, List.not_mem_nil, or_false] at hx
    rcases hx with rfl
    exact pd_int ha) (by simp)).le (by decide) (by decide) (by decide)⟩
theorem ent_int {a : Int} (ha : a.natAbs < 2 ^ 140) : Ent (.int a) := ⟨trivial, (pd_int ha).le (by decide) (by decide) (by decide)⟩
theorem ent_bl {a : Bool} : Ent (.bl a) := ⟨trivial, pd_bl.le (by decide) (by decide) (by decide)⟩
theorem ent_non : Ent .non := ⟨trivial, pd_non.le (by decide) (by decide) (by decide)⟩
theorem ent_F {q : Rat} (h1 : q.num.natAbs < 2 ^ 140) (h2 : q.den < 2 ^ 140) : Ent (F q) := ent_pair h1 (nc h2)
theorem ent_R {N : Nat} {z : Int} (h : 0 < N) (hN : N < 2 ^ 140) (hz : z.natAbs < 2 ^ 140) : Ent (R N z) := ent_F (lt_le (num_le z N) hz) (lt_le (den_le z h) hN)
theorem tabok_ent {u : U} (h1 : dep 7 u) (h : Ent u) : TabOk u := ⟨h1, h.2.le (by decide) (by decide) (by decide)⟩
/-! what is no entry -/
theorem q_pair {x y : Int} : w_is_from_zero [.tup [.int x, .int y]] Q E = Q (.bl ((decide (1 ≤ y) && decide ((Nat.gcd x.natAbs y.natAbs : Int) = 1)) && decide (0 ≤ x))) := by
  simp only [w_is_from_zero, en, List.map_cons, List.map_nil, List.length_cons, List.length_nil, Nat.reduceAdd, Nat.reduceSub, List.replicate, List.append_nil, v_is_from_zero, sRet', xAndV, xApp, xCons, xNil, xV0, w_is_fraction, v_is_fraction, sSeq', sIf', xOr, xNot, xTru, xUn, xTyT, ty1, xTr_bl, Bool.not_true, Bool.false_eq_true, if_false, xTst, xOp, xFN, xLenT, xC, xNeI, xB_bl, xIxT0, xIxT1, q_is_integer_int, sPass', xGe, xGcd, xEqI, ge_iff_le]
  by_cases h1 : 1 ≤ y
  · by_cases h2 : (Nat.gcd x.natAbs y.natAbs : Int) = 1
    · simp [h1, h2]
    · simp [h1, h2]
  · simp [h1]
theorem q_no_tuple {u : U} (h : ∀ Q : U → Prop, vIsTy "tuple" u Q = Q (.bl false)) : w_is_from_zero [u] Q E = Q (.bl false) := by
  simp only [w_is_from_zero, en, List.map_cons, List.map_nil, List.length_cons, List.length_nil, Nat.reduceAdd, Nat.reduceSub, List.replicate, List.append_nil, v_is_from_zero, sRet', xAndV, xApp, xCons, xNil, xV0, w_is_fraction, v_is_fraction, sSeq', sIf', xOr, xNot, xTru, xUn, h, xTr_bl, Bool.not_false, if_true, xC, xB_bl, Bool.false_eq_true, if_false]
theorem q_no_pair {x : U} : w_is_from_zero [.tup [x]] Q E = Q (.bl false) := by
  simp [w_is_from_zero, en, List.replicate, v_is_from_zero, w_is_fraction, v_is_fraction]
/-! what is no row -/
theorem q_row {m n : Nat} {g : Nat → U} {b : Nat → Bool} (hm : m < 1000) (h : ∀ l, l < m → ∀ Q E, w_is_from_zero [g l] Q E = Q (.bl (b l))) : w_is_table_row [.tup (vec m g), .int (n : Int)] Q E = Q (.bl (decide (m = n) && (List.range m).all b)) := by
  simp only [w_is_table_row, en, List.map_cons, List.map_nil, List.length_cons, List.length_nil, Nat.reduceAdd, Nat.reduceSub, List.replicate, List.cons_append, List.nil_append, v_is_table_row, sRet', xAndV, xUn, xV0, xTyT, ty1, xB_bl, if_true, xOp, xApp, xCons, xNil, xFN, xLenT, vec_len, xV1, xEqI, xL, xLc, xSrc, seqT, wipe1, wipe0, List.set_cons_zero, List.set_cons_succ]
  by_cases e : m = n
  · subst e
    simp only [decide_true, if_true, Bool.true_and]
    rw [and_eq (by omega), lcV_vec (g := fun j => .bl (b j)) fun i hi Q => ?_, xAllV]
    simp only [List.set_cons_zero, List.set_cons_succ, xApp, xCons, xNil, xV2, h i hi]
  · have : ¬ ((m : Int) = n) := by omega
    simp [e, this]
theorem q_row_no {u : U} {k : Int} (h : ∀ Q : U → Prop, vIsTy "tuple" u Q = Q (.bl false)) : w_is_table_row [u, .int k] Q E = Q (.bl false) := by
  simp only [w_is_table_row, en, List.map_cons, List.map_nil, List.length_cons, List.length_nil, Nat.reduceAdd, Nat.reduceSub, List.replicate, List.cons_append, List.nil_append, v_is_table_row, sRet', xAndV, xUn, xV0, h, xB_bl, Bool.false_eq_true, if_false]
theorem q_table_no {u : U} (h : ∀ Q : U → Prop, vIsTy "tuple" u Q = Q (.bl false)) : w_is_table [u] Q E = Q (.bl false) := by
  simp only [w_is_table, en, List.map_cons, List.map_nil, List.length_cons, List.length_nil, Nat.reduceAdd, Nat.reduceSub, List.replicate, List.cons_append, List.nil_append, v_is_table, sSeq', sIf', xOr, xNot, xTru, xUn, xV0, h, xTr_bl, Bool.not_false, if_true, sRet', xC]
theorem q_table_len {us : List U} (h : ¬ (1 ≤ us.length ∧ us.length ≤ 8)) : w_is_table [.tup us] Q E = Q (.bl false) := by
  by_cases h1 : (1 : Int) ≤ us.length
  · have h2 : ¬ (us.length : Int) ≤ 8 := by omega
    simp only [w_is_table, en, List.map_cons, List.map_nil, List.length_cons, List.length_nil, Nat.reduceAdd, Nat.reduceSub, List.replicate, List.cons_append, List.nil_append, v_is_table, sSeq', sIf', xOr, xNot, xTru, xUn, xV0, xTyT, ty1, xTr_bl, xTst, xChain, xC, xApp, xCons, xNil, xFN, xLenT, xLe, xB_bl, h1, h2, decide_true, decide_false, if_true, Bool.not_true, Bool.not_false, Bool.false_eq_true, if_false, sRet']
  · simp only [w_is_table, en, List.map_cons, List.map_nil, List.length_cons, List.length_nil, Nat.reduceAdd, Nat.reduceSub, List.replicate, List.cons_append, List.nil_append, v_is_table, sSeq', sIf', xOr, xNot, xTru, xUn, xV0, xTyT, ty1, xTr_bl, xTst, xChain, xC, xApp, xCons, xNil, xFN, xLenT, xLe, xB_bl, h1, decide_true, decide_false, if_true, Bool.not_true, Bool.not_false, Bool.false_eq_true, if_false, sRet']
def Bad (u : U) : Prop := (∀ Q E, w_is_table [u] Q E = Q (.bl false)) ∧ TabOk u
end MI.K02

set_option Elab.async false
set_option linter.all false
set_option maxRecDepth 100000
set_option maxHeartbeats 400000
set_option exponentiation.threshold 100000
namespace MI.K02
open PySem PySem.Spec PyProof.Rows L2 MI
variable {Q : U → Prop} {E : Str → U → Prop}
theorem split_set {us : List U} {i : Nat} {u : U} (h : i < us.length) : us.take i ++ [u] ++ us.drop (i + 1) = us.set i u := by
  rw [List.set_eq_take_append_cons_drop, if_pos h]
  simp
/-- an entry put in -/
theorem q_entry_put {n N : Nat} {z : Nat → Nat → Int} {i j : Nat} {e : U} (hn : n ≤ 16) (hi : i < n) (hj : j < n) : w_entry_put [tabR n N z, .int (i : Int), .int (j : Int), e] Q E = Q (.tup (vec n fun k => if k = i then .tup (vec n fun l => if l = j then e else R N (z i l)) else .tup (vec n fun l => R N (z k l)))) := by
  have ei : (i : Int) + 1 = ((i + 1 : Nat) : Int) := by omega
  have ej : (j : Int) + 1 = ((j + 1 : Nat) : Int) := by omega
  simp only [w_entry_put, en, List.map_cons, List.map_nil, List.length_cons, List.length_nil, Nat.reduceAdd, Nat.reduceSub, List.replicate, List.cons_append, List.nil_append, v_entry_put, tabR, tabF, sSeq', sAsg', xOp, xSlice, xV0, xV1, xV2, xV3, ixV hi, xPartN, xPartS, xApp, xCons, xNil, xFN, xTup1, xC, xAdd, ei, ej]
  rw [cut_to (by rw [vec_len]; omega), xAddT (by simp; omega), cut_from (by rw [vec_len]; omega), xAddT (by simp; omega), split_set (by rw [vec_len]; exact hj), vec_set]
  simp only [asgN, List.set_cons_zero, List.set_cons_succ, sRet', xOp, xSlice, xV0, xV1, xV4, xPartN, xPartS, xApp, xCons, xNil, xFN, xTup1, xC, xAdd, ei]
  rw [cut_to (by rw [vec_len]; omega), xAddT (by simp; omega), cut_from (by rw [vec_len]; omega), xAddT (by simp; omega), split_set (by rw [vec_len]; exact hi), vec_set]
section
variable {n : Nat} {z : Nat → Nat → Int} (t : Tb n NN z)
include t
theorem Tb.lt140 {i j : Nat} (hi : i < n) (hj : j < n) : (z i j).natAbs < 2 ^ 140 := by
  have h1 := t.le hi hj
  have h2 := t.zero i j hi hj
  have : NN < 2 ^ 140 := by decide
  omega
theorem Tb.ent {i j : Nat} (hi : i < n) (hj : j < n) : Ent (R NN (z i j)) := ent_R (by decide) (by decide) (t.lt140 hi hj)
theorem Tb.row {i : Nat} (hi : i < n) : RowOk (.tup (vec n fun j => R NN (z i j))) := row_tup (fun x hx => by
  obtain ⟨j, hj, rfl⟩ := mem_vec hx
  exact t.ent hi hj) (by have := t.hn; rw [vec_len]; omega)
theorem Tb.good {i : Nat} (hi : i < n) (k : Nat) (Q : U → Prop) (E : Str → U → Prop) : w_is_table_row [.tup (vec n fun j => R NN (z i j)), .int (k : Int)] Q E = Q (.bl (decide (n = k))) := by
  have hn := t.hn
  rw [q_row (by omega) (b := fun j => true) fun l hl Q E => by rw [q_is_from_zero]; simp [num_sign (show 0 < NN by decide), t.zero i l hi hl], all_true fun _ _ => rfl, Bool.and_true]
/-- with an entry that is none -/
theorem bad_entry {i j : Nat} {e : U} (hi : i < n) (hj : j < n) (he : Ent e) (h : ∀ Q E, w_is_from_zero [e] Q E = Q (.bl false)) : Bad (.tup (vec n fun k => if k = i then .tup (vec n fun l => if l = j then e else R NN (z i l)) else .tup (vec n fun l => R NN (z k l)))) := by
  have hn := t.hn
  refine ⟨fun Q E => q_is_table_bad hn (b := fun k => decide (k ≠ i)) (i := i) (fun k hk Q E => ?_) hi (by simp), tab_tup (fun x hx => ?_) (by rw [vec_len]; omega)⟩
  · by_cases e1 : k = i
    · subst e1
      simp only [if_true]
      rw [q_row (by omega) (b := fun l => decide (l ≠ j)) fun l hl Q E => ?_, all_false hj (by simp), Bool.and_false]
      · simp
      · by_cases e2 : l = j
        · subst e2; simp only [if_true]; rw [h]; simp
        · simp only [e2, if_false]; rw [q_is_from_zero]; simp [num_sign (show 0 < NN by decide), t.zero k l hk hl, e2]
    · simp only [e1, if_false]
      rw [t.good hk]
      simp [e1]
  · obtain ⟨k, hk, rfl⟩ := mem_vec hx
    by_cases e1 : k = i
    · simp only [e1, if_true]
      exact row_tup (fun x hx => by
        obtain ⟨l, hl, rfl⟩ := mem_vec hx
        by_cases e2 : l = j
        · simp only [e2, if_true]; exact he
        · simp only [e2, if_false]; exact t.ent hi hl) (by rw [vec_len]; omega)
    · simp only [e1, if_false]
      exact t.row hk
/-- with an entry that makes its column too much -/
theorem bad_heavy {i j : Nat} {x : Int} (hi : i < n) (hj : j < n) (x0 : 0 ≤ x) (xl : x.natAbs < 2 ^ 140) (hs : (NN : Int) < sm n (fun k => z k j) - z i j + x) : Bad (.tup (vec n fun k => if k = i then .tup (vec n fun l => if l = j then R NN x else R NN (z i l)) else .tup (vec n fun l => R NN (z k l)))) := by
  have hn := t.hn
  have e : (U.tup (vec n fun k => if k = i then .tup (vec n fun l => if l = j then R NN x else R NN (z i l)) else .tup (vec n fun l => R NN (z k l)))) = tabR n NN (fun k l => if k = i then (if l = j then x else z i l) else z k l) := by
    unfold tabR tabF
    congr 1
    refine vec_congr fun k hk => ?_
    by_cases e1 : k = i
    · simp only [e1, if_true]
      congr 1
      exact vec_congr fun l hl => by by_cases e2 : l = j <;> simp [e2]
    · simp only [e1, if_false]
  refine ⟨fun Q E => ?_, tab_tup (fun r hx => ?_) (by rw [vec_len]; omega)⟩
  · rw [e, q_is_table hn (by decide) (by decide +kernel) (fun k l hk hl => ?_) (fun k l hk hl => ?_), all_false hj]
    · rw [decide_eq_false_iff_not]
      have : sm n (fun k => if k = i then (if j = j then x else z i j) else z k j) = sm n (fun k => if k = i then x else z k j) := sm_congr fun k hk => by simp
      rw [this, sm_upd hi]
      omega
    · have : (if k = i then (if l = j then x else z i l) else z k l).natAbs < 2 ^ 140 := by
        by_cases e1 : k = i
        · by_cases e2 : l = j
          · simp only [e1, e2, if_true]; exact xl
          · simp only [e1, e2, if_true, if_false]; exact t.lt140 hi hl
        · simp only [e1, if_false]; exact t.lt140 hk hl
      exact Nat.lt_of_lt_of_le this (p2_mono (by decide))
    · by_cases e1 : k = i
      · by_cases e2 : l = j
        · simp only [e1, e2, if_true]; exact x0
        · simp only [e1, e2, if_true, if_false]; exact t.zero i l hi hl
      · simp only [e1, if_false]; exact t.zero k l hk hl
  · obtain ⟨k, hk, rfl⟩ := mem_vec hx
    by_cases e1 : k = i
    · simp only [e1, if_true]
      exact row_tup (fun y hx => by
        obtain ⟨l, hl, rfl⟩ := mem_vec hx
        by_cases e2 : l = j
        · simp only [e2, if_true]; exact ent_R (by decide) (by decide) xl
        · simp only [e2, if_false]; exact t.ent hi hl) (by rw [vec_len]; omega)
    · simp only [e1, if_false]
      exact t.row hk
/-- with a row that is none -/
theorem bad_row {i : Nat} {r : U} (hi : i < n) (hr : RowOk r) (h : ∀ Q E, w_is_table_row [r, .int (n : Int)] Q E = Q (.bl false)) : Bad (.tup (vec n fun k => if k = i then r else .tup (vec n fun l => R NN (z k l)))) := by
  have hn := t.hn
  refine ⟨fun Q E => q_is_table_bad hn (b := fun k => decide (k ≠ i)) (i := i) (fun k hk Q E => ?_) hi (by simp), tab_tup (fun x hx => ?_) (by rw [vec_len]; omega)⟩
  · by_cases e1 : k = i
    · simp only [e1, if_true]; rw [h]; simp
    · simp only [e1, if_false]; rw [t.good hk]; simp [e1]
  · obtain ⟨k, hk, rfl⟩ := mem_vec hx
    by_cases e1 : k = i
    · simp only [e1, if_true]; exact hr
    · simp only [e1, if_false]; exact t.row hk
/-- with rows too few or too many -/
theorem bad_many {m : Nat} {f : Nat → Nat} (hm : m ≠ n) (hm9 : m ≤ 9) (hf : ∀ k, k < m → f k < n) : Bad (.tup (vec m fun k => .tup (vec n fun l => R NN (z (f k) l)))) := by
  have hn := t.hn
  refine ⟨fun Q E => ?_, tab_tup (fun x hx => ?_) (by rw [vec_len]; omega)⟩
  · by_cases h8 : 1 ≤ m ∧ m ≤ 8
    · exact q_is_table_bad h8 (b := fun k => decide (n = m)) (i := 0) (fun k hk Q E => t.good (hf k hk) m Q E) (by omega) (by simp; omega)
    · exact q_table_len (by rw [vec_len]; exact h8)
  · obtain ⟨k, hk, rfl⟩ := mem_vec hx
    exact t.row (hf k hk)
end
theorem asgF {q : Rat} {i j : Nat} {η : Env} : asgE (.tp [.nm i, .nm j]) (F q) η = some ((η.set i (.va (.int q.num))).set j (.va (.int (q.den : Int)))) := id rfl
theorem cnd {n i : Nat} {f g : Nat → U} (h : i < n) : (vec n f).take i ++ [g i] ++ (vec n f).drop (i + 1) = vec n fun k => if k = i then g i else f k := by
  rw [split_set (by rw [vec_len]; exact h), vec_set]
theorem cut_out {n i : Nat} {f : Nat → U} (h : i < n) : (vec n f).take i ++ (vec n f).drop (i + 1) = vec (n - 1) fun k => f (if k < i then k else k + 1) := by
  apply List.ext_getElem?
  intro k
  have tl : ((vec n f).take i).length = i := by simp; omega
  by_cases hk : k < i
  · rw [List.getElem?_append_left (by rw [tl]; exact hk), List.getElem?_take_of_lt hk, vec_get (by omega), vec_get (by omega), if_pos hk]
  · rw [List.getElem?_append_right (by rw [tl]; omega), tl, List.getElem?_drop]
    by_cases h2 : k < n - 1
    · rw [vec_get h2, if_neg hk, vec_get (by omega)]
      congr 2
      omega
    · rw [List.getElem?_eq_none (by simp; omega), List.getElem?_eq_none (by simp; omega)]
theorem xMulL9 {x : U} : vMul (.lst [x]) (.int 9) Q = Q (.lst (vec 9 fun _ => x)) := xMulL (k := 9) (by decide)
theorem xMulT9 {x : U} : vMul (.tup [x]) (.int 9) Q = Q (.tup (vec 9 fun _ => x)) := xMulT (k := 9) (by decide)
theorem rng9 : rngU 0 (Int.toNat 9) = vec 9 fun i => .int (i : Int) := rngU_eq 9
theorem sm9 : small62 9 = true := small_nat (n := 9) (by decide)
theorem q_table9 : w_table_of [.lst (vec 9 fun j => .lst (vec 9 fun i => .int (one i j))), .lst (vec 9 fun _ => .int 1)] Q E = Q (tabF 9 fun i j => mkRat (one i j) 1) := q_table_of (n := 9) (c := fun j i => one i j) (b := fun _ => 1) (by decide) (fun _ _ => by decide) (fun _ _ => by decide +kernel)
theorem ones {i j : Nat} : (if decide ((i : Int) = (j : Int)) = true then (1 : Int) else 0) = one i j := by
  unfold one
  by_cases h : i = j
  · subst h; simp
  · have : ¬ (i : Int) = j := by omega
    simp [h, this]
theorem bad_nine {f : Nat → Nat → U} (h : ∀ i j, i < 9 → j < 9 → Ent (f i j)) : Bad (.tup (vec 9 fun i => .tup (vec 9 (f i)))) := ⟨fun Q E => q_table_len (by rw [vec_len]; decide), tab_tup (fun x hx => by
  obtain ⟨i, hi, rfl⟩ := mem_vec hx
  exact row_tup (fun y hy => by
    obtain ⟨j, hj, rfl⟩ := mem_vec hy
    exact h i j hi hj) (by rw [vec_len]; decide)) (by rw [vec_len]; decide)⟩
/-- what is no table -/
theorem q_spoilt {n : Nat} {c : Nat → Nat → Int} {b K : Nat → Nat} {z : Nat → Nat → Int} (hn : 1 ≤ n ∧ n ≤ 8) (hb : ∀ j, j < n → 0 < b j ∧ b j ∣ NN) (hc : ∀ j, j < n → Col n (b j) (c j)) (t : Tb n NN z) (hK : ∀ j, j < n → NN = b j * K j ∧ 0 < K j) (hz : ∀ i j, z i j = c j i * (K j : Int)) (q : ∀ u, Bad u → Q u) : w_spoilt [.jug, colsU n c, .lst (vec n fun j => .int (b j : Int)), tabR n NN z] Q E := by
  have sq : ∀ (Q : U → Prop), vLen [tabR n NN z] Q = Q (.int (n : Int)) := fun Q => len_tab
  simp only [w_spoilt, en, List.map_cons, List.map_nil, List.length_cons, List.length_nil, Nat.reduceAdd, Nat.reduceSub, List.replicate, List.cons_append, List.nil_append, v_spoilt, sSeq' (a := wAsg _ _), sAsg', xApp, xCons, xNil, xFN, xV0, xV3, xV4, sq, asgN, List.set_cons_zero, List.set_cons_succ]
  refine drop_small (by omega) (by omega) fun i hi => ?_
  refine drop_small (by omega) (by omega) fun j hj => ?_
  have hi' : i < n := by omega
  have hj' : j < n := by omega
  have NNp : 0 < NN := by decide
  have bN : b j ≤ NN := Nat.le_of_dvd NNp (hb j hj').2
  have N140 : 2 * NN + 2 < 2 ^ 140 := by decide
  have bl : b j < 2 ^ 4000 := Nat.lt_of_le_of_lt bN (Nat.lt_of_lt_of_le NN_lt (p2_mono (by decide)))
  have ixT : ∀ (Q : U → Prop), vIx (tabR n NN z) (.int (i : Int)) (fun x => vIx x (.int (j : Int)) Q) = Q (R NN (z i j)) := fun Q => by
    unfold tabR tabF
    rw [ixV hi', ixV hj']
  have ixB : ∀ (Q : U → Prop), vIx (.lst (vec n fun j => U.int (b j : Int))) (.int (j : Int)) Q = Q (.int (b j : Int)) := fun Q => ixVL hj'
  have ixC : ∀ (Q : U → Prop), vIx (colsU n c) (.int (j : Int)) Q = Q (.lst (vec n fun i => .int (c j i))) := fun Q => ixVL hj'
  have ixCi : ∀ (Q : U → Prop), vIx (.lst (vec n fun i => U.int (c j i))) (.int (i : Int)) Q = Q (.int (c j i)) := fun Q => ixVL hi'
  have nb := t.lt140 hi' hj'
  have n1 := lt_le (num_le (z i j) NN) nb
  have n2 : (mkRat (z i j) NN).num.natAbs ≤ NN := Nat.le_trans (num_le (z i j) NN) (by
    have h1 := t.le hi' hj'
    have h2 := t.zero i j hi' hj'
    omega)
  have d1 : (mkRat (z i j) NN).den ≤ NN := den_le _ NNp
  have d0 := (mkRat (z i j) NN).den_pos
  have num0 : 0 ≤ (mkRat (z i j) NN).num := (num_sign NNp _).mpr (t.zero i j hi' hj')
  simp only [asgN, List.set_cons_zero, List.set_cons_succ, sSeq' (a := wAsg _ _), sAsg', xOp, xV1, xV2, xV3, xV5, xV6, ixT, asgF, ixB, xApp, xCons, xNil, xFN, ixC, xSq, xSumV, xSub, ixCi, xV9, xAdd, xC, q_low (hb j hj').1 bl, xV7, xV8, xV10, xMul (mulOk_of (i := 2) (m := 10) (n := 140) (by decide) (show (mkRat (z i j) NN).num.natAbs < 2 ^ 140 from n1) (by decide)), xMul (mulOk_of (i := 2) (m := 10) (n := 140) (by decide) (show ((mkRat (z i j) NN).den : Int).natAbs < 2 ^ 140 from nc (by omega)) (by decide)), xTup1, xTup2]
  rw [xLst (by simp), xLst (by simp)]
  simp only [xV0, xV11, xLenL, List.length_cons, List.length_nil, Nat.reduceAdd, xAdd]
  refine drop_small (by decide) (by decide) fun w hw => ?_
  have num_1 : (1 : Int) ≤ (mkRat (z i j) NN).den := by omega
  simp only [sSeq' (a := wIf _ _ _), sIf', xTst, xOp, xV11, xV12, xApp, xCons, xNil, xFN, xLenL, List.length_cons, List.length_nil, Nat.reduceAdd, xLt, xB_bl]
  have NNk := hK j hj'
  by_cases hw9 : w < 9
  · have hlt : (w : Int) < ((9 : Nat) : Int) := by omega
    simp only [hlt, decide_true, if_true, sRet', xApp, xCons, xNil, xOp, xV3, xV5, xV6, xV11, xV12]
    have put : ∀ e, Bad (.tup (vec n fun k => if k = i then .tup (vec n fun l => if l = j then e else R NN (z i l)) else .tup (vec n fun l => R NN (z k l)))) → w_entry_put [tabR n NN z, .int (i : Int), .int (j : Int), e] Q E := fun e he => by
      rw [q_entry_put (by omega) hi' hj']
      exact q _ he
    have A0 := sm_nonneg (n := n) (f := c j) (hc j hj').zero
    have A1 := (hc j hj').sum
    have C0 := (hc j hj').zero i hi'
    have C1 := sm_mem (f := c j) (hc j hj').zero hi'
    have heavy : Bad (.tup (vec n fun k => if k = i then .tup (vec n fun l => if l = j then F (mkRat (c j i + ((b j : Int) - sm n (c j)) + 1) (b j)) else R NN (z i l)) else .tup (vec n fun l => R NN (z k l)))) := by
      have e1 : mkRat (c j i + ((b j : Int) - sm n (c j)) + 1) (b j) = mkRat ((c j i + ((b j : Int) - sm n (c j)) + 1) * (K j : Int)) NN := by
        rw [NNk.1]
        exact (mk_cancel NNk.2).symm
      have e2 : (c j i + ((b j : Int) - sm n (c j)) + 1) * (K j : Int) = c j i * (K j : Int) + ((b j : Int) * (K j : Int) - sm n (c j) * (K j : Int)) + (K j : Int) := by
        rw [Int.add_mul, Int.add_mul, Int.sub_mul, Int.one_mul]
      have e3 : sm n (fun k => z k j) = sm n (c j) * (K j : Int) := by
        rw [← sm_mulr]
        exact sm_congr fun k _ => hz k j
      have e4 : ((NN : Nat) : Int) = (b j : Int) * (K j : Int) := by rw [← Int.natCast_mul, ← NNk.1]
      have k0 : (0 : Int) < K j := by have := NNk.2; omega
      have k1 : (K j : Int) ≤ NN := by
        have : K j ≤ NN := by rw [NNk.1]; exact Nat.le_mul_of_pos_left _ (hb j hj').1
        omega
      have p1 : 0 ≤ c j i * (K j : Int) := Int.mul_nonneg C0 (by omega)
      have p2 : sm n (c j) * (K j : Int) ≤ (b j : Int) * (K j : Int) := Int.mul_le_mul_of_nonneg_right A1 (by omega)
      have p3 : c j i * (K j : Int) ≤ sm n (c j) * (K j : Int) := Int.mul_le_mul_of_nonneg_right C1 (by omega)
      rw [e1]
      refine bad_heavy t hi' hj' ?_ ?_ ?_
      · rw [e2]; omega
      · rw [e2]
        have : (c j i * (K j : Int) + ((b j : Int) * (K j : Int) - sm n (c j) * (K j : Int)) + (K j : Int)).natAbs ≤ 2 * NN := by omega
        omega
      · rw [e3, hz i j, e2]; omega
    have w9 : w = 0 ∨ w = 1 ∨ w = 2 ∨ w = 3 ∨ w = 4 ∨ w = 5 ∨ w = 6 ∨ w = 7 ∨ w = 8 := by omega
    rcases w9 with rfl | rfl | rfl | rfl | rfl | rfl | rfl | rfl | rfl
    · rw [xIxL (k := 0) rfl]; exact put _ heavy
    · rw [xIxL (k := 1) rfl]; exact put _ heavy
    · rw [xIxL (k := 2) rfl]
      refine put _ (bad_entry t hi' hj' (ent_pair (by omega) (nc (by omega))) fun Q E => ?_)
      rw [q_pair, decide_eq_false (show ¬ 0 ≤ 0 - 1 - (mkRat (z i j) NN).num by omega), Bool.and_false]
    · rw [xIxL (k := 3) rfl]
      refine put _ (bad_entry t hi' hj' (ent_pair (by omega) (by omega)) fun Q E => ?_)
      have g2 : ¬ ((Nat.gcd (2 * (mkRat (z i j) NN).num).natAbs (2 * ((mkRat (z i j) NN).den : Int)).natAbs : Nat) : Int) = 1 := by
        rw [Int.natAbs_mul, Int.natAbs_mul, show (2 : Int).natAbs = 2 from rfl, Nat.gcd_mul_left]
        omega
      rw [q_pair, decide_eq_false g2, Bool.and_false, Bool.false_and]
    · rw [xIxL (k := 4) rfl]
      exact put _ (bad_entry t hi' hj' ent_bl fun Q E => q_no_tuple fun Q => by simp)
    · rw [xIxL (k := 5) rfl]
      exact put _ (bad_entry t hi' hj' (ent_int (by decide)) fun Q E => q_no_tuple fun Q => by simp)
    · rw [xIxL (k := 6) rfl]
      exact put _ (bad_entry t hi' hj' ent_non fun Q E => q_no_tuple fun Q => by simp)
    · rw [xIxL (k := 7) rfl]
      exact put _ (bad_entry t hi' hj' (ent_pairL (by omega) (nc (by omega))) fun Q E => q_no_tuple fun Q => by simp)
    · rw [xIxL (k := 8) rfl]
      exact put _ (bad_entry t hi' hj' (ent_one (by omega)) fun Q E => q_no_pair)
  · have hlt : ¬ (w : Int) < ((9 : Nat) : Int) := by omega
    simp only [hlt, decide_false, Bool.false_eq_true, if_false, sPass']
    have ei : (i : Int) + 1 = ((i + 1 : Nat) : Int) := by omega
    have ej : (j : Int) + 1 = ((j + 1 : Nat) : Int) := by omega
    have t1 : ∀ f : Nat → U, cutL (vec n f) none (some (i : Int)) = (vec n f).take i := fun f => cut_to (by rw [vec_len]; omega)
    have t2 : ∀ f : Nat → U, cutL (vec n f) none (some (j : Int)) = (vec n f).take j := fun f => cut_to (by rw [vec_len]; omega)
    have t3 : ∀ f : Nat → U, cutL (vec n f) (some ((i + 1 : Nat) : Int)) none = (vec n f).drop (i + 1) := fun f => cut_from (by rw [vec_len]; omega)
    have t4 : ∀ f : Nat → U, cutL (vec n f) (some ((j + 1 : Nat) : Int)) none = (vec n f).drop (j + 1) := fun f => cut_from (by rw [vec_len]; omega)
    have a1 : ∀ (f g : Nat → U) (Q : U → Prop), vAdd (.tup ((vec n f).take j)) (.tup ((vec n g).drop (j + 1))) Q = Q (.tup ((vec n f).take j ++ (vec n g).drop (j + 1))) := fun f g Q => xAddT (by simp; omega)
    have a2 : ∀ (f : Nat → U) (u : U) (Q : U → Prop), vAdd (.tup ((vec n f).take i)) (.tup [u]) Q = Q (.tup ((vec n f).take i ++ [u])) := fun f u Q => xAddT (by simp; omega)
    have a3 : ∀ (f g : Nat → U) (u : U) (Q : U → Prop), vAdd (.tup ((vec n f).take i ++ [u])) (.tup ((vec n g).drop (i + 1))) Q = Q (.tup ((vec n f).take i ++ [u] ++ (vec n g).drop (i + 1))) := fun f g u Q => xAddT (by simp; omega)
    have a4 : ∀ (f g : Nat → U) (Q : U → Prop), vAdd (.tup ((vec n f).take i)) (.tup ((vec n g).drop (i + 1))) Q = Q (.tup ((vec n f).take i ++ (vec n g).drop (i + 1))) := fun f g Q => xAddT (by simp; omega)
    have a5 : ∀ (f : Nat → U) (u : U) (Q : U → Prop), vAdd (.tup (vec n f)) (.tup [u]) Q = Q (.tup (vec n f ++ [u])) := fun f u Q => xAddT (by simp; omega)
    have c1 : ∀ (f g : Nat → U), (vec n f).take i ++ [g i] ++ (vec n f).drop (i + 1) = vec n fun k => if k = i then g i else f k := fun f g => cnd hi'
    have l9 : ∀ (x1 x2 x3 x4 x5 x6 x7 x8 x9 : U) (Q : U → Prop), vLst [x1, x2, x3, x4, x5, x6, x7, x8, x9] Q = Q (.lst [x1, x2, x3, x4, x5, x6, x7, x8, x9]) := fun _ _ _ _ _ _ _ _ _ Q => xLst (by simp)
    have l2 : ∀ (x1 x2 : U) (Q : U → Prop), vLst [x1, x2] Q = Q (.lst [x1, x2]) := fun _ _ Q => xLst (by simp)
    have l1 : ∀ (x1 : U) (Q : U → Prop), vLst [x1] Q = Q (.lst [x1]) := fun _ Q => xLst (by simp)
    have a6 : ∀ (x1 x2 x3 x4 x5 x6 x7 x8 x9 y1 y2 : U) (Q : U → Prop), vAdd (.lst [x1, x2, x3, x4, x5, x6, x7, x8, x9]) (.lst [y1, y2]) Q = Q (.lst [x1, x2, x3, x4, x5, x6, x7, x8, x9, y1, y2]) := fun _ _ _ _ _ _ _ _ _ _ _ Q => xAddL (by simp)
    simp only [tabR, tabF, sSeq' (a := wAsg _ _), sAsg', xOp, xSlice, xV3, xV5, xV6, xPartN, xPartS, xC, xAdd, ei, ej, ixV hi', ixV hj', xApp, xCons, xNil, xFN, xTup0, xTup1, xTup2, xListT, t1, t2, t3, t4, a1, a2, a3, a4, a5, asgN, List.set_cons_zero, List.set_cons_succ, xV13, xV14, l9, xV15, xBox, xLc, xRng1, sm9, rng9, vec_len, true_and, wipe1, wipe0, l1]
    refine ⟨by decide, ?_⟩
    rw [lcV_vec (g := fun j => .lst (vec 9 fun i => .int (one i j))) fun j hj Q => ?_]
    · simp only [xMulL9, q_table9, xMulT9, l2, a6, asgN, List.set_cons_zero, List.set_cons_succ, sRet', xOp, xV15, xApp, xCons, xNil, xFN, xV0, xLenL, List.length_cons, List.length_nil, Nat.reduceAdd]
      refine drop_small (by decide) (by decide) fun w hw => ?_
      have rk : ∀ k, k < n → RowOk (.tup (vec n fun l => R NN (z k l))) := fun k hk => t.row hk
      have w11 : w = 0 ∨ w = 1 ∨ w = 2 ∨ w = 3 ∨ w = 4 ∨ w = 5 ∨ w = 6 ∨ w = 7 ∨ w = 8 ∨ w = 9 ∨ w = 10 := by omega
      rcases w11 with rfl | rfl | rfl | rfl | rfl | rfl | rfl | rfl | rfl | rfl | rfl
      · rw [xIxL (k := 0) rfl]
        exact q _ ⟨fun Q E => q_table_no fun Q => by simp, tab_lst (fun x hx => by
          obtain ⟨k, hk, rfl⟩ := mem_vec hx
          exact rk k hk) (by rw [vec_len]; omega)⟩
      · rw [xIxL (k := 1) rfl, cut_out hi']
        exact q _ (bad_many t (f := fun k => if k < i then k else k + 1) (by omega) (by omega) fun k hk => by split <;> omega)
      · rw [xIxL (k := 2) rfl]
        have e : (vec n fun k => U.tup (vec n fun l => R NN (z k l))) ++ [U.tup (vec n fun l => R NN (z i l))] = vec (n + 1) fun k => U.tup (vec n fun l => R NN (z (if k < n then k else i) l)) := by
          rw [vec_succ, if_neg (by omega)]
          congr 1
          exact vec_congr fun k hk => by rw [if_pos hk]
        have e' : (vec n fun k => U.tup (vec n fun l => F (mkRat (z k l) NN))) ++ [U.tup (vec n fun l => F (mkRat (z i l) NN))] = vec (n + 1) fun k => U.tup (vec n fun l => R NN (z (if k < n then k else i) l)) := e
        rw [e']
        exact q _ (bad_many t (f := fun k => if k < n then k else i) (by omega) (by omega) fun k hk => by split <;> omega)
      · rw [xIxL (k := 3) rfl]
        have e := cnd (f := fun k => U.tup (vec n fun l => F (mkRat (z k l) NN))) (g := fun _ => U.tup ((vec n fun l => F (mkRat (z i l) NN)).take j ++ (vec n fun l => F (mkRat (z i l) NN)).drop (j + 1))) hi'
        rw [e, cut_out hj']
        refine q _ (bad_row t hi' (row_tup (fun x hx => ?_) (by rw [vec_len]; omega)) fun Q E => ?_)
        · obtain ⟨l, hl, rfl⟩ := mem_vec hx
          exact t.ent hi' (by split <;> omega)
        · rw [q_row (by omega) (b := fun l => decide (0 ≤ (mkRat (z i (if l < j then l else l + 1)) NN).num)) fun l hl Q E => q_is_from_zero, decide_eq_false (show ¬ n - 1 = n by omega), Bool.false_and]
      · rw [xIxL (k := 4) rfl]
        have e := cnd (f := fun k => U.tup (vec n fun l => F (mkRat (z k l) NN))) (g := fun _ => U.lst (vec n fun l => F (mkRat (z i l) NN))) hi'
        rw [e]
        refine q _ (bad_row t hi' (row_lst (fun x hx => ?_) (by rw [vec_len]; omega)) fun Q E => q_row_no fun Q => by simp)
        obtain ⟨l, hl, rfl⟩ := mem_vec hx
        exact t.ent hi' hl
      · rw [xIxL (k := 5) rfl]
        exact q _ ⟨fun Q E => q_table_no fun Q => by simp, tabok_ent trivial ent_non⟩
      · rw [xIxL (k := 6) rfl]
        exact q _ ⟨fun Q E => q_table_len (by simp), tab_tup (fun x hx => by cases hx) (by simp)⟩
      · rw [xIxL (k := 7) rfl]
        refine q _ ⟨fun Q E => ?_, tabok_ent ?_ (t.ent hi' hj')⟩
        · rw [F_vec]
          exact q_is_table_bad (by decide) (b := fun _ => false) (i := 0) (fun k hk Q E => q_row_no fun Q => by by_cases h : k = 0 <;> simp [h]) (by decide) rfl
        · refine ⟨by simp, fun x hx => ?_⟩
          simp only [List.mem_cons, List.not_mem_nil, or_false] at hx
          rcases hx with rfl | rfl <;> trivial
      · rw [xIxL (k := 8) rfl]
        exact q _ ⟨fun Q E => q_table_no fun Q => by simp, tabok_ent trivial ⟨trivial, (pd_str (by decide +kernel) (by decide +kernel)).le (by decide) (by decide) (by decide)⟩⟩
      · rw [xIxL (k := 9) rfl]
        refine q _ (bad_nine fun i j hi hj => ?_)
        refine ent_F ?_ ?_
        · refine lt_le (num_le _ _) ?_
          unfold one
          split <;> decide
        · exact lt_le (den_le _ (by decide)) (by decide)
      · rw [xIxL (k := 10) rfl]
        exact q _ (bad_nine (f := fun _ _ => .tup [.int 0, .int 1]) fun i j hi hj => ent_pair (by decide) (by decide))
    · simp only [List.set_cons_zero, List.set_cons_succ, xBox, xLc, xRng1, xC, sm9, rng9, vec_len, true_and, wipe1, wipe0]
      rw [and_eq (by decide), lcV_vec (g := fun i => .int (one i j)) fun i hi Q => ?_]
      simp only [List.set_cons_zero, List.set_cons_succ, xApp, xCons, xNil, xFN, xOp, xV16, xV17, xEqI, xIntB, ones]
end MI.K02

set_option Elab.async false
set_option linter.all false
set_option maxRecDepth 100000
set_option maxHeartbeats 400000
set_option exponentiation.threshold 100000
namespace MI.K02
open PySem PySem.Spec PyProof.Rows L2 MI
variable {Q : U → Prop} {E : Str → U → Prop}
theorem Bad.check {u : U} (h : Bad u) : w_check_table [u] Q E = E "InvalidTable" u := q_check_bad h.1 h.2.1
theorem inT : ("InvalidTable" : Str) ∈ errNames := by decide
theorem inN : ("InvalidNumber" : Str) ∈ errNames := by decide
theorem inU : ("Unlike" : Str) ∈ errNames := by decide
theorem isT : sub_InvalidTable "InvalidTable" = true := by decide
theorem isN : sub_InvalidNumber "InvalidNumber" = true := by decide
theorem isU : sub_Unlike "Unlike" = true := by decide
theorem isE' {names : List Str} {sub : Str → Bool} {a : VT U} {η : Env} : vIsE names sub a η Q E = a η (fun x => match x with
  | .exc c _ => c ∈ names ∧ Q (.bl (sub c))
  | _ => False) E := rfl
theorem q_no_table {w a b u : U} (hc : ∀ Q E, w_caught [w, a, b] Q E = Q (.exc "InvalidTable" u)) (h : Bad u) : w_no_table [w, a, b, u] Q E = Q (.bl true) := by
  simp only [w_no_table, en, List.map_cons, List.map_nil, List.length_cons, List.length_nil, Nat.reduceAdd, Nat.reduceSub, List.replicate, List.cons_append, List.nil_append, v_no_table, sSeq', sAsg', xApp, xCons, xNil, xV0, xV1, xV2, hc, asgN, List.set_cons_zero, List.set_cons_succ, sRet', xAndV, isE', xV4, isT, inT, true_and, xB_bl, if_true, xOp, xFN, xVal, xV3]
  exact repr_same h.2.2 (by decide) (by decide) (by decide)
theorem bad0 {u v : U} (h : Bad u) : w_caught [.int 0, u, v] Q E = Q (.exc "InvalidTable" u) := q_caught0 (fun Q E => by
  simp only [w_behind, en, List.map_cons, List.map_nil, List.length_cons, List.length_nil, Nat.reduceAdd, Nat.reduceSub, List.replicate, List.cons_append, List.nil_append, List.append_nil, v_behind, sSeq', sExpr', xApp, xCons, xNil, xV0, h.check]) inT
theorem bad0' {n N : Nat} {z : Nat → Nat → Int} {u : U} (t : Tb n N z) (h : Bad u) : w_caught [.int 0, tabR n N z, u] Q E = Q (.exc "InvalidTable" u) := q_caught0 (fun Q E => by
  simp only [w_behind, en, List.map_cons, List.map_nil, List.length_cons, List.length_nil, Nat.reduceAdd, Nat.reduceSub, List.replicate, List.cons_append, List.nil_append, List.append_nil, v_behind, sSeq', sExpr', xApp, xCons, xNil, xV0, xV1, t.check, h.check]) inT
theorem bad1 {u v : U} (h : Bad u) : w_caught [.int 1, u, v] Q E = Q (.exc "InvalidTable" u) := q_caught1 (fun Q E => by
  simp only [w_power, en, List.map_cons, List.map_nil, List.length_cons, List.length_nil, Nat.reduceAdd, Nat.reduceSub, List.replicate, List.cons_append, List.nil_append, List.append_nil, v_power, sSeq', sExpr', xApp, xCons, xNil, xV0, h.check]) inT
theorem bad2 {u v : U} (h : Bad u) : w_caught [.int 2, u, v] Q E = Q (.exc "InvalidTable" u) := q_caught2 (fun Q E => by
  simp only [w_keeps_all, en, List.map_cons, List.map_nil, List.length_cons, List.length_nil, Nat.reduceAdd, Nat.reduceSub, List.replicate, List.cons_append, List.nil_append, List.append_nil, v_keeps_all, sSeq', sExpr', xApp, xCons, xNil, xV0, h.check]) inT
/-- so many casks' still table -/
theorem q_l_still {i : Int} : w_l_still [.int i] Q E = Q (.bl true) := by
  simp only [w_l_still, en, List.map_cons, List.map_nil, List.length_cons, List.length_nil, Nat.reduceAdd, Nat.reduceSub, List.replicate, List.cons_append, List.nil_append, v_l_still, sSeq' (a := wIf _ _ _), sIf', xAnd, xTst, xOp, xC, xV0, xLe, xB_bl]
  by_cases h : 1 ≤ i ∧ i ≤ 8
  · obtain ⟨n, rfl⟩ : ∃ n : Nat, i = n := ⟨i.toNat, by omega⟩
    have hn : 1 ≤ n ∧ n ≤ 8 := by omega
    simp only [h.1, h.2, decide_true, if_true, sSeq' (a := wAsg _ _), sAsg', xBox, xLc, xRng1, xV0, wipe1, wipe0, List.set_cons_zero, List.set_cons_succ]
    rw [and_eq (small_nat (by omega)), Int.toNat_natCast, rngU_eq, vec_len, and_eq (by omega), lcV_vec (g := fun j => .lst (vec n fun i => .int (one i j))) fun j hj Q => ?_]
    · simp only [asgN, List.set_cons_zero, List.set_cons_succ, sRet', xApp, xCons, xNil, xFN, xV0, xV1, xOp, xLst (show [U.int 1].length ≤ 16777216 by simp), xC, q_still hn]
      rw [xMulL (by omega)]
      have e := q_table_of (n := n) (c := fun j i => one i j) (b := fun _ => 1) (Q := fun x => w_same 8 [tabR n 1 one, x] Q E) (E := E) (by omega) (fun _ _ => by decide) (fun _ _ => by decide +kernel)
      refine Eq.trans e ?_
      exact q_same_tab (by omega)
    · simp only [List.set_cons_zero, List.set_cons_succ, xBox, xLc, xRng1, xV0, wipe1, wipe0]
      rw [and_eq (small_nat (by omega)), Int.toNat_natCast, rngU_eq, vec_len, and_eq (by omega), lcV_vec (g := fun i => .int (one i j)) fun i hi Q => ?_]
      simp only [List.set_cons_zero, List.set_cons_succ, xApp, xCons, xNil, xFN, xOp, xV2, xV3, xEqI, xIntB, ones]
  · have rest : (wSeq (wAsg (.nm 4) (vApp w_caught (vCons (vC (.int 3)) (vCons (vV 0) (vCons (vC .non) vNil))))) (wRet (vAndV (vIsE errNames sub_InvalidNumber (vV 4)) (vApp (w_same 8) (vCons (vVal errNames (vV 4)) (vCons (vV 0) vNil)))))) [.va (.int i), .un, .un, .un, .un] (fun _ => Q .non) Q (fun c u _ => E c u) (fun _ => False) (fun _ => False) = Q (.bl true) := by
      simp only [sSeq', sAsg', xApp, xCons, xNil, xC, xV0, q_caught3 (fun Q E => q_still_bad h) inN, asgN, List.set_cons_zero, List.set_cons_succ, sRet', xAndV, isE', xV4, isN, inN, true_and, xB_bl, if_true, xVal, q_same_int, decide_true]
    by_cases h1 : 1 ≤ i
    · have h2 : ¬ i ≤ 8 := fun z => h ⟨h1, z⟩
      simp only [h1, h2, decide_true, decide_false, if_true, Bool.false_eq_true, if_false, sPass']
      exact rest
    · simp only [h1, decide_false, Bool.false_eq_true, if_false, sPass']
      exact rest
/-- the refusals -/
theorem q_refusals {n m N : Nat} {c : Nat → Nat → Int} {b K : Nat → Nat} {z y : Nat → Nat → Int} (hn : 1 ≤ n ∧ n ≤ 8) (hb : ∀ j, j < n → 0 < b j ∧ b j ∣ NN) (hc : ∀ j, j < n → Col n (b j) (c j)) (t : Tb n NN z) (hK : ∀ j, j < n → NN = b j * K j ∧ 0 < K j) (hz : ∀ i j, z i j = c j i * (K j : Int)) (s : Tb m N y) (q : Q (.bl true)) : w_refusals [.jug, .tup [colsU n c, .lst (vec n fun j => .int (b j : Int))], tabR n NN z, tabR m N y] Q E := by
  simp only [w_refusals, en, List.map_cons, List.map_nil, List.length_cons, List.length_nil, Nat.reduceAdd, Nat.reduceSub, List.replicate, List.cons_append, List.nil_append, v_refusals, sSeq' (a := wAsg _ _), sAsg', xApp, xCons, xNil, xOp, xV0, xV1, xV2, xC, xIxT0, xIxT1]
  refine q_spoilt hn hb hc t hK hz fun u hu => ?_
  simp only [asgN, List.set_cons_zero, List.set_cons_succ, sSeq' (a := wIf _ _ _), sIf', xTst, xOp, xApp, xCons, xNil, xV4, hu.1, xC, xIsnB, BEq.rfl, Bool.not_true, xB_bl, Bool.false_eq_true, if_false, sPass', xOr, xNot, xTru, xV3, xV2, q_no_table (fun Q E => bad0 hu) hu, q_no_table (fun Q E => bad0' t hu) hu, xTr_bl, sSeq' (a := wAsg _ _), sAsg', xV0, xSub]
  refine drop_small (by decide) (by decide) fun d hd => ?_
  have neg : (0 - 1 - (d : Int)) < 0 := by omega
  simp only [asgN, List.set_cons_zero, List.set_cons_succ, xApp, xCons, xNil, xC, xV2, xV3, xV4, xV5, q_no_table (fun Q E => bad1 hu) hu, q_no_table (fun Q E => bad2 hu) hu, xTr_bl, Bool.not_true, Bool.false_eq_true, if_false, sPass', q_caught1 (fun Q E => q_power_neg t neg) inN, sSeq' (a := wIf _ _ _), sIf', xOr, xNot, xTru, isE', xV6, isN, inN, true_and, xVal, q_same_int, decide_true, sSeq' (a := wAsg _ _), sAsg']
  by_cases h : n = m
  · subst h
    simp only [q_caught_none (fun Q E => q_behind t s), asgN, List.set_cons_zero, List.set_cons_succ, sSeq', sIf', xTst, xOp, xApp, xCons, xNil, xFN, xV3, xV2, len_tab, xEqI, decide_true, xB_bl, if_true, sRet', xV6, xC, xIsN, xSub, q_caught1 (fun Q E => q_power_neg t neg) inN, inN, isN, true_and, Bool.not_true, Bool.false_eq_true, if_false, q_same_int, xTr_bl, isNonU]
    exact q
  · have h2 : ¬ (m : Int) = n := by omega
    simp only [q_caught0 (fun Q E => q_behind_unlike t s h) inU, asgN, List.set_cons_zero, List.set_cons_succ, sSeq', sIf', xTst, xOp, xApp, xCons, xNil, xFN, xV3, xV2, len_tab, xEqI, h2, decide_false, xB_bl, Bool.false_eq_true, if_false, sPass', sRet', xAndV, isE', xV6, isU, inU, true_and, if_true, xVal, q_same_int, decide_true, xSub, q_caught1 (fun Q E => q_power_neg t neg) inN, inN, isN, Bool.not_true, xTr_bl]
    exact q
end MI.K02

set_option Elab.async false
set_option linter.all false
set_option maxRecDepth 100000
set_option maxHeartbeats 400000
set_option exponentiation.threshold 100000
namespace MI.K02
open PySem PySem.Spec PyProof.Rows L2 MI
variable {Q : U → Prop} {E : Str → U → Prop}
theorem mpow_one {n : Nat} {z : Nat → Nat → Int} {i j : Nat} (hi : i < n) (hj : j < n) : mpow n z 1 i j = z i j := by
  show mul n z one i j = z i j
  unfold mul
  have e : (sm n fun k => z i k * one k j) = sm n fun k => one j k * z i k := sm_congr fun k _ => by
    rw [Int.mul_comm]
    unfold one
    by_cases e : k = j
    · subst e; simp
    · rw [if_neg e, if_neg fun h => e h.symm]
  rw [e, sm_one hj]
theorem tb_one {n : Nat} (hn : 1 ≤ n ∧ n ≤ 8) : Tb n 1 one := ⟨hn, by decide, by decide +kernel, fun i j _ _ => by unfold one; split <;> decide, fun j hj => by
  have := sm_one (n := n) (i := j) (f := fun _ => 1) hj
  have e : sm n (fun i => one i j) = 1 := by
    rw [← this]
    exact sm_congr fun k _ => by
      unfold one
      by_cases e : k = j
      · subst e; simp
      · rw [if_neg e, if_neg fun h => e h.symm]; simp
  rw [e]; exact Int.le_refl _⟩
theorem q_right (q : Q (.bl true)) : w_right [.jug] Q E := by
  simp only [w_right, en, List.map_cons, List.map_nil, List.length_cons, List.length_nil, Nat.reduceAdd, Nat.reduceSub, List.replicate, List.cons_append, List.nil_append, v_right, sSeq' (a := wAsg _ _), sAsg', xOp, xC, xApp, xCons, xNil, xFN, xV0, xLst (show [U.int 5, U.int 5, U.int 8].length ≤ 16777216 by simp)]
  refine drop_small (by decide) (by decide) fun d0 hd0 => ?_
  have h58 : ∃ k : Nat, 1 ≤ k ∧ k ≤ 8 ∧ ∀ Q : U → Prop, vIx (.lst [.int 5, .int 5, .int 8]) (.int (d0 : Int)) Q = Q (.int (k : Int)) := by
    have : d0 = 0 ∨ d0 = 1 ∨ d0 = 2 := by omega
    rcases this with rfl | rfl | rfl
    · exact ⟨5, by decide, by decide, fun Q => xIxL (k := 0) rfl⟩
    · exact ⟨5, by decide, by decide, fun Q => xIxL (k := 1) rfl⟩
    · exact ⟨8, by decide, by decide, fun Q => xIxL (k := 2) rfl⟩
  obtain ⟨k8, k81, k82, ek⟩ := h58
  rw [ek]
  refine drop_small (by omega) (by omega) fun d1 hd1 => ?_
  obtain ⟨n, e1n⟩ : ∃ n : Nat, (1 : Int) + d1 = n := ⟨1 + d1, by omega⟩
  have hn : 1 ≤ n ∧ n ≤ 8 := by omega
  simp only [xAdd, e1n, asgN, List.set_cons_zero, List.set_cons_succ, xV0, xV1]
  refine q_draw hn fun c b hb hc => ?_
  obtain ⟨z, K, t, hK, hz, -, hfull, etab⟩ := tab_drawn hn hb hc
  simp only [xV0, xV1, xV2, xIxT0, xIxT1, etab, asgN, List.set_cons_zero, List.set_cons_succ]
  refine q_draw hn fun c2 b2 hb2 hc2 => ?_
  obtain ⟨z2, K2, t2, hK2, hz2, -, -, etab2⟩ := tab_drawn hn hb2 hc2
  simp only [xV0, xV1, xV4, xIxT0, xIxT1, etab2, asgN, List.set_cons_zero, List.set_cons_succ, sSeq' (a := wIf _ _ _), sIf', xOr, xTst, xOp, xApp, xCons, xNil, xV3, xV5, t.is, t2.is, xC, xIsnB, BEq.rfl, Bool.not_true, xB_bl, Bool.false_eq_true, if_false, sPass', xNot, xTru, q_behind t t2, q_l_behind t t2, q_same_tab (show n < 1000000 by omega), xTr_bl, sSeq' (a := wAsg _ _), sAsg', xL, xLc, xRng1, wipe1, wipe0]
  have nn : n < 1000000 := by omega
  refine ⟨small_nat (by omega), ?_⟩
  rw [Int.toNat_natCast, rngU_eq]
  refine ⟨by rw [vec_len]; omega, ?_⟩
  rw [lcV_vec (g := fun j => .bl (decide (sm n (c j) = b j))) fun j hj Q => ?_]
  · rw [xAllV]
    have ef : (List.range n).all (fun j => decide (sm n (fun i => z i j) = NN)) = (List.range n).all (fun j => decide (sm n (c j) = b j)) := by
      rw [Bool.eq_iff_iff, List.all_eq_true, List.all_eq_true]
      constructor
      · intro h j hj
        have := h j hj
        rw [decide_eq_true_eq] at this ⊢
        exact (hfull j (List.mem_range.mp hj)).mp this
      · intro h j hj
        have := h j hj
        rw [decide_eq_true_eq] at this ⊢
        exact (hfull j (List.mem_range.mp hj)).mpr this
    simp only [asgN, List.set_cons_zero, List.set_cons_succ, xV3, xV6, q_keeps_all t, ef, q_same_bl, BEq.rfl, xTr_bl, Bool.not_true, Bool.false_eq_true, if_false, xV0]
    refine drop_small (by decide) (by decide) fun d2 hd2 => ?_
    simp only [xSub, q_l_still, xTr_bl, Bool.not_true, Bool.false_eq_true, if_false, sPass', sSeq' (a := wAsg _ _), sAsg', xOp, xC, xApp, xCons, xNil, xFN, xV0]
    refine drop_small (by decide) (by decide) fun d3 hd3 => ?_
    try simp only [xAdd, xV0]
    refine drop_small (by decide) (by decide) fun d4 hd4 => ?_
    rw [xAdd, xLst (by simp)]
    try simp only [xV0]
    refine drop_small (by decide) (by decide) fun d5 hd5 => ?_
    have hfew : ∃ m : Nat, (1 ≤ m ∧ m ≤ 8) ∧ ∀ Q : U → Prop, vIx (.lst [.int (1 + (d3 : Int)), .int (6 + (d4 : Int))]) (.int (if decide ((d5 : Int) = 4) = true then 1 else 0)) Q = Q (.int (m : Int)) := by
      by_cases h : (d5 : Int) = 4
      · refine ⟨6 + d4, by omega, fun Q => ?_⟩
        rw [if_pos (by simpa using h)]
        have e : (6 : Int) + d4 = ((6 + d4 : Nat) : Int) := by omega
        rw [e]
        exact xIxL1
      · refine ⟨1 + d3, by omega, fun Q => ?_⟩
        rw [if_neg (by simpa using h)]
        have e : (1 : Int) + d3 = ((1 + d3 : Nat) : Int) := by omega
        rw [e]
        exact xIxL0
    obtain ⟨m, hm, em⟩ := hfew
    simp only [xEqI, xIntB, em, asgN, List.set_cons_zero, List.set_cons_succ, xV0]
    refine drop_small (by decide) (by decide) fun d6 hd6 => ?_
    obtain ⟨L, eL⟩ : ∃ L : Nat, (1 : Int) + d6 = L := ⟨1 + d6, by omega⟩
    have L0 : 0 < L := by omega
    have L6 : L ≤ 6 := by omega
    have L400 : L < 2 ^ 400 := Nat.lt_of_le_of_lt L6 (by decide +kernel)
    simp only [xAdd, eL, asgN, List.set_cons_zero, List.set_cons_succ, sSeq' (a := wAsg _ _), sAsg', xBox, xLc, xRng1, xV8, wipe1, wipe0]
    refine ⟨small_nat (by omega), ?_⟩
    rw [Int.toNat_natCast, rngU_eq]
    refine ⟨by rw [vec_len]; omega, q_cols (n := m) (b := fun _ => L) (fun j hj Q hq => ?_) fun cs hcs => ?_⟩
    · simp only [List.set_cons_zero, List.set_cons_succ, xApp, xCons, xNil, xV0, xV8, xV9]
      exact q_column hm L400 hq
    · have ts : Tb m L (fun i j => cs j i) := ⟨hm, L0, L400, fun i j hi hj => (hcs j hj).zero i hi, fun j hj => (hcs j hj).sum⟩
      have etab3 : ∀ (Q : U → Prop) (E : Str → U → Prop), w_table_of [.lst (vec m fun j => .lst (vec m fun i => .int (cs j i))), .lst (vec m fun _ => .int (L : Int))] Q E = Q (tabR m L fun i j => cs j i) := fun Q E => q_table_of (c := cs) (b := fun _ => L) (by omega) (fun _ _ => L0) (fun _ _ => Nat.lt_of_lt_of_le L400 (p2_mono (by decide)))
      simp only [asgN, List.set_cons_zero, List.set_cons_succ, xApp, xCons, xNil, xV10, xV9, xV8, xOp, xFN, xLst (show [U.int (L : Int)].length ≤ 16777216 by simp), xMulL (show m ≤ 10000 by omega), etab3, xC, xGt]
      have h260 : ∃ k : Int, 41 ≤ k ∧ k ≤ 301 ∧ ∀ Q : U → Prop, vApp (vFN vInt) (vCons (vC (.bl (decide ((m : Int) > 3)))) vNil) [] (fun y => vMul (.int 260) y fun y => vSub (.int 301) y Q) noE = Q (.int k) := by
        by_cases h : (m : Int) > 3
        · refine ⟨41, by decide, by decide, fun Q => ?_⟩
          simp only [xApp, xCons, xNil, xC, xFN, xIntB, decide_eq_true h, if_true]
          rw [xMul (mulOk_of (m := 10) (n := 10) (by decide) (by decide) (by decide))]
          rfl
        · refine ⟨301, by decide, by decide, fun Q => ?_⟩
          simp only [xApp, xCons, xNil, xC, xFN, xIntB, decide_eq_false h, Bool.false_eq_true, if_false]
          rw [xMul (mulOk_of (m := 10) (n := 10) (by decide) (by decide) (by decide))]
          rfl
      obtain ⟨k, k41, k301, ekk⟩ := h260
      simp only [xApp, xCons, xNil, xC, xFN, gt_iff_lt] at ekk
      simp only [ekk]
      rw [xLst (by simp)]
      try simp only [xV0]
      refine drop_small (by decide) (by decide) fun d7 hd7 => ?_
      have hr : ∃ r : Nat, 1 ≤ r ∧ r ≤ 301 ∧ ∀ Q : U → Prop, vIx (.lst [.int 3, .int 8, .int 40, .int k]) (.int (d7 : Int)) Q = Q (.int (r : Int)) := by
        have : d7 = 0 ∨ d7 = 1 ∨ d7 = 2 ∨ d7 = 3 := by omega
        rcases this with rfl | rfl | rfl | rfl
        · exact ⟨3, by decide, by decide, fun Q => xIxL (k := 0) rfl⟩
        · exact ⟨8, by decide, by decide, fun Q => xIxL (k := 1) rfl⟩
        · exact ⟨40, by decide, by decide, fun Q => xIxL (k := 2) rfl⟩
        · refine ⟨k.toNat, by omega, by omega, fun Q => ?_⟩
          rw [xIxL (k := 3) (u := .int k) rfl]
          congr 2
          omega
      obtain ⟨r0, r01, r02, er⟩ := hr
      simp only [er]
      refine drop_small (by omega) (by omega) fun r hr => ?_
      have r3 : r < 301 := by omega
      have Lr : L ^ r < 2 ^ 1900 := Nat.lt_of_le_of_lt (Nat.le_trans (Nat.pow_le_pow_left L6 r) (Nat.pow_le_pow_right (by decide) (show r ≤ 300 by omega))) (by decide +kernel)
      have Lr4 : L ^ r < 2 ^ 4000 := Nat.lt_of_lt_of_le Lr (p2_mono (by decide))
      have epw : ∀ (Q : U → Prop) (E : Str → U → Prop), w_l_powered [.lst (vec m fun j => .lst (vec m fun i => .int (cs j i))), .int (L : Int), .int (r : Int)] Q E = Q (tabR m (L ^ r) (mpow m (fun i j => cs j i) r)) := fun Q E => q_l_powered (c := cs) hm (fun i j hi hj => (hcs j hj).zero i hi) (fun j hj => (hcs j hj).sum) L0 Lr (by omega)
      have mm : m < 1000000 := by omega
      have N1 : NN ^ 1 < 2 ^ 4000 := by decide +kernel
      have e1 : tabR n (NN ^ 1) (mpow n z 1) = tabR n NN z := tab_congr fun i j hi hj => by rw [mpow_one hi hj, Nat.pow_one]
      have e2 : tabR m (1 * L) (mul m one fun i j => cs j i) = tabR m L fun i j => cs j i := tab_congr fun i j hi hj => by rw [one_mul hi, Nat.one_mul]
      have pw1 : ∀ (Q : U → Prop) (E : Str → U → Prop), w_power [tabR n NN z, .int 1] Q E = Q (tabR n NN z) := fun Q E => by
        rw [← e1]
        conv => rhs; rw [e1, ← e1]
        have := q_power (Q := Q) (E := E) (r := 1) t N1 (by decide)
        rw [e1] at this ⊢
        exact this
      have bh : ∀ (Q : U → Prop) (E : Str → U → Prop), w_behind [tabR m L (fun i j => cs j i), tabR m 1 one] Q E = Q (tabR m L fun i j => cs j i) := fun Q E => by
        rw [q_behind ts (tb_one hm), e2]
      simp only [asgN, List.set_cons_zero, List.set_cons_succ, sSeq' (a := wIf _ _ _), sIf', xNot, xTru, xApp, xCons, xNil, xV12, xV13, xV10, xV9, q_power ts Lr4 (show r < 4000 by omega), epw, q_same_tab mm, xTr_bl, Bool.not_true, Bool.false_eq_true, if_false, sPass', xOr, xV3, xC, pw1, q_same_tab nn, xV8, q_still hm, bh, sRet', xV0, xV2]
      exact q_refusals hn hb hc t hK hz ts q
  · simp only [List.set_cons_zero, List.set_cons_succ, xOp, xApp, xCons, xNil, xFN, xV2, xC, xIxT0, xIxT1, xV7, colsU]
    rw [ixVL hj]
    simp only [xSq, xSumV]
    rw [ixVL hj]
    simp only [xEqI]
end MI.K02

set_option Elab.async false
set_option linter.all false
set_option maxRecDepth 100000
set_option maxHeartbeats 400000
set_option exponentiation.threshold 100000
namespace MI.K02
open PySem PySem.Spec PyProof.Rows L2 MI
variable {Q : U → Prop} {E : Str → U → Prop}
theorem py_ints : ∀ (ns : List Int) (n : Nat), ns.length + 2 ≤ n → uPys n (ns.map U.int) = some (ns.map PyData.int)
  | [], n + 1, _ => rfl
  | a :: ns, n + 2, h => by
    have h1 : uPys (n + 1) (ns.map U.int) = some (ns.map PyData.int) := py_ints ns (n + 1) (by simp at h; omega)
    simp only [List.map_cons, uPys, uPy, h1]
theorem shaped_ints (ns : List Int) : SeqAt.shaped (.list (ns.map PyData.int)) = true := by
  have h1 : PyData.canLayAll0 (ns.map PyData.int) = true := by
    induction ns with
    | nil => rfl
    | cons a ns ih => simp only [List.map_cons, PyData.canLayAll0, PyData.canLay0, ih, Bool.and_self]
  have h2 : PyData.depthAll (ns.map PyData.int) = 0 := by
    induction ns with
    | nil => rfl
    | cons a ns ih =>
      have h1' : PyData.canLayAll0 (ns.map PyData.int) = true := by
        simp only [List.map_cons, PyData.canLayAll0, Bool.and_eq_true] at h1
        exact h1.2
      simp only [List.map_cons, PyData.depthAll, PyData.depth, ih h1', Nat.max_self]
  simp [SeqAt.shaped, PyData.canLay0, PyData.depth, h1, h2]
theorem eq_nil {ns : List Int} (h : ns.length ≤ 63) : vEqB false (.fro (ns.map U.int)) (.lst []) Q = Q (.bl (decide (ns = []))) := by
  have e1 : uPy fuelD (.fro (ns.map U.int)) = some (.list (ns.map PyData.int)) := by
    show (uPys 139 (ns.map U.int)).map PyData.list = _
    rw [py_ints ns 139 (by omega)]
    rfl
  have e2 : uPy fuelD (.lst []) = some (.list []) := rfl
  have e : vEqB false (.fro (ns.map U.int)) (.lst []) Q = vEqO false (.fro (ns.map U.int)) (.lst []) Q := rfl
  rw [e]
  unfold vEqO
  rw [e1, e2]
  show (_ ∧ _) = _
  rw [and_eq ⟨shaped_ints ns, shaped_ints []⟩]
  cases ns with
  | nil => rfl
  | cons a ns => rfl
def lawI (s : List U) (cs : List Int) (_ : Nat) (η : Env) : Prop := ∃ o, η = [.va (.fro s), .va (.lst (cs.map U.int)), o]
theorem q_law {ns : List Int} (hl : ns.length ≤ 63) (hb : ∀ z ∈ ns, z.natAbs.log2 ≤ 1048576) : w_law [.fro (ns.map U.int)] (fun u => u = .bl true) noE := by
  obtain ⟨k, hk, ek⟩ : ∃ k : Nat, k ≤ 1 ∧ (if decide (ns = []) = true then (1 : Int) else 0) = k := by
    by_cases h : ns = []
    · exact ⟨1, by decide, by simp [h]⟩
    · exact ⟨0, by decide, by simp [h]⟩
  obtain ⟨cs, hcs⟩ : ∃ cs : List Int, cs = ns.take 6 ++ List.replicate k 0 := ⟨_, rfl⟩
  have cl : cs.length ≤ 7 := by rw [hcs]; simp; omega
  have cb : ∀ z ∈ cs, z.natAbs.log2 ≤ 1048576 := fun z hz => by
    rw [hcs, List.mem_append] at hz
    rcases hz with hz | hz
    · exact hb z (List.mem_of_mem_take hz)
    · rw [List.eq_of_mem_replicate hz]; decide
  have cut : cutL (ns.map U.int) none (some 6) = (ns.take 6).map U.int := by
    unfold cutL
    rw [HT.sIx_none, show HT.sIx (ns.map U.int).length (ns.map U.int).length (some 6) = min 6 (ns.map U.int).length from HT.sIx_nat _ _ 6]
    rw [List.drop_zero, Nat.sub_zero, List.map_take]
    by_cases h : 6 ≤ (ns.map U.int).length
    · rw [Nat.min_eq_left h]
    · rw [Nat.min_eq_right (by omega), List.take_of_length_le (Nat.le_refl _), List.take_of_length_le (by omega)]
  have app : ((ns.take 6).map U.int) ++ (vec k fun _ => U.int 0) = cs.map U.int := by
    rw [hcs, List.map_append]
    congr 1
    have : k = 0 ∨ k = 1 := by omega
    rcases this with rfl | rfl <;> rfl
  simp only [w_law, en, List.map_cons, List.map_nil, List.length_cons, List.length_nil, Nat.reduceAdd, Nat.reduceSub, List.replicate, List.cons_append, List.nil_append, v_law, sSeq' (a := wAsg _ _), sAsg', xOp, xSlice, xV0, xPartN, xPartS, xC, xApp, xCons, xNil, xFN, xLst (show [U.int 0].length ≤ 16777216 by simp), xLst (show ([] : List U).length ≤ 16777216 by simp), cut, eq_nil hl, xIntB, ek]
  rw [xMulL (by omega), xAddL (by simp; omega), app]
  simp only [asgN, List.set_cons_zero, List.set_cons_succ, sSeq' (a := wFor _ _ _), sFor', xRng1, xApp, xCons, xNil, xFN, xV1, xLenL, List.length_map]
  refine ⟨small_nat (by omega), ?_⟩
  rw [Int.toNat_natCast, rngU_eq]
  refine ⟨by rw [vec_len]; omega, forV_some (I := lawI (ns.map U.int) cs) ⟨_, rfl⟩ (fun m hm η hI K N2 hK => ?_) (fun η hI => ?_)⟩
  · obtain ⟨o, rfl⟩ := hI
    have ge : (cs.map U.int)[m]? = some (.int cs[m]) := by simp [hm]
    simp only [List.set_cons_zero, List.set_cons_succ, sIf', xNot, xTru, xApp, xCons, xNil, xOp, xV1, xV2]
    rw [xIxL ge]
    refine ⟨⟨cb _ (List.getElem_mem hm), by omega, by omega⟩, q_right ?_⟩
    try simp only [xTr_bl, Bool.not_true, Bool.false_eq_true, if_false, sPass']
    exact hK _ ⟨_, rfl⟩
  · obtain ⟨o, rfl⟩ := hI
    simp only [sRet', xC]
theorem f_law_eq (ns : List Int) (hl : ns.length ≤ 63) (hb : ∀ z ∈ ns, z.natAbs.log2 ≤ 1048576) : ∃ S, f_law [.fro (ns.map D.int)] [] = .ok (.bl true) S := law_of (q_law hl hb)
end MI.K02

set_option Elab.async false
set_option linter.all false
open PySem PySem.W PyProof.Rows
set_option maxRecDepth 100000 in
set_option maxHeartbeats 0 in
theorem PySem.Challenge.cw_caskyears_k02_tables_one_behind_the_othe_holds : PySem.Challenge.rw_caskyears_k02_tables_one_behind_the_othe.Holds := by
  w_on; o_law; k_head; (case hw => w_witness2)
  k_fill
  refine MI.walk_G (l := PySem.Challenge.rw_caskyears_k02_tables_one_behind_the_othe) (n := 63) (k := 17) (x := "_law_script") (f := MI.K02.f_law) rfl (by decide) rfl ⟨rfl, by decide, by decide⟩ (fun w h Y => PySem.W.kIn_of Y) ?F (fun ns hl hb => MI.K02.f_law_eq ns hl hb)
  case F =>
    intro w mg fa h KX G hmg
    refine' MI.K02.all_mk (MI.K02.mkTxt KX G ?m_drop ?F_drop ?m_column ?F_column ?m_draw ?F_draw ?m_low ?F_low ?m_table_of ?F_table_of ?m_entry_put ?F_entry_put ?m_spoilt ?F_spoilt ?m_is_integer ?F_is_integer ?m_is_fraction ?F_is_fraction ?m_is_from_zero ?F_is_from_zero ?m_is_share ?F_is_share ?m_is_table_row ?F_is_table_row ?m_reduced ?F_reduced ?m_added ?F_added ?m_total ?F_total ?m_column_sums ?F_column_sums ?m_is_table ?F_is_table ?m_built_anew ?F_built_anew ?m_check_table ?F_check_table ?m_rows_of ?F_rows_of ?m_product_of ?F_product_of ?m_common ?F_common ?m_grid_of ?F_grid_of ?m_behind ?F_behind ?m_check_rounds ?F_check_rounds ?m_still_grid ?F_still_grid ?m_power_of ?F_power_of ?m_reduced_by ?F_reduced_by ?m_powered ?F_powered ?m_power ?F_power ?m_keeps_all ?F_keeps_all ?m_check_casks ?F_check_casks ?m_still ?F_still ?m_caught ?F_caught ?m_same ?F_same ?m_no_table ?F_no_table ?m_refusals ?F_refusals ?m_add ?F_add ?m_entry ?F_entry ?m_l_behind ?F_l_behind ?m_l_still ?F_l_still ?m_l_powered ?F_l_powered ?m_right ?F_right ?m_jug ?F_jug ?m_law ?F_law ?c_CaskError ?c_InvalidTable ?c_InvalidNumber ?c_Unlike ?o_Unlike ?j_Unlike ?y_Unlike ?v_Unlike ?o_InvalidTable ?j_InvalidTable ?y_InvalidTable ?v_InvalidTable ?o_InvalidNumber ?j_InvalidNumber ?y_InvalidNumber ?v_InvalidNumber ?F_init ?t_init ?n_ValueError ?v_ValueError ?i_Unlike_InvalidNumber ?i_InvalidTable_InvalidNumber ?i_InvalidNumber_InvalidNumber ?i_Unlike_InvalidTable ?i_InvalidTable_InvalidTable ?i_InvalidNumber_InvalidTable ?i_Unlike_Unlike ?i_InvalidTable_Unlike ?i_InvalidNumber_Unlike ?x_Unlike_CaskError ?x_InvalidTable_CaskError ?x_InvalidNumber_CaskError ?c_MOST_CASKS ?c_ONE ?l_ONE ?r_ONE ?y_ONE ?c_ZERO ?l_ZERO ?r_ZERO ?y_ZERO ?n_gcd ?n_lcm ?n_abs ?n_all ?n_bool ?n_int ?n_isinstance ?n_len ?n_list ?n_max ?n_range ?n_repr ?n_sum ?n_tuple ?n_zip) hmg
    (case m_drop => k_is)
    (case F_drop => (refine' L2.fun_mk ?l ?c ?k; (case l => k_is); (case c => k_is); (case k => k_is)))
    (case m_column => k_is)
    (case F_column => (refine' L2.fun_mk ?l ?c ?k; (case l => k_is); (case c => k_is); (case k => k_is)))
    (case m_draw => k_is)
    (case F_draw => (refine' L2.fun_mk ?l ?c ?k; (case l => k_is); (case c => k_is); (case k => k_is)))
    (case m_low => k_is)
    (case F_low => (refine' L2.fun_mk ?l ?c ?k; (case l => k_is); (case c => k_is); (case k => k_is)))
    (case m_table_of => k_is)
    (case F_table_of => (refine' L2.fun_mk ?l ?c ?k; (case l => k_is); (case c => k_is); (case k => k_is)))
    (case m_entry_put => k_is)
    (case F_entry_put => (refine' L2.fun_mk ?l ?c ?k; (case l => k_is); (case c => k_is); (case k => k_is)))
    (case m_spoilt => k_is)
    (case F_spoilt => (refine' L2.fun_mk ?l ?c ?k; (case l => k_is); (case c => k_is); (case k => k_is)))
    (case m_is_integer => k_is)
    (case F_is_integer => (refine' L2.fun_mk ?l ?c ?k; (case l => k_is); (case c => k_is); (case k => k_is)))
    (case m_is_fraction => k_is)
    (case F_is_fraction => (refine' L2.fun_mk ?l ?c ?k; (case l => k_is); (case c => k_is); (case k => k_is)))
    (case m_is_from_zero => k_is)
    (case F_is_from_zero => (refine' L2.fun_mk ?l ?c ?k; (case l => k_is); (case c => k_is); (case k => k_is)))
    (case m_is_share => k_is)
    (case F_is_share => (refine' L2.fun_mk ?l ?c ?k; (case l => k_is); (case c => k_is); (case k => k_is)))
    (case m_is_table_row => k_is)
    (case F_is_table_row => (refine' L2.fun_mk ?l ?c ?k; (case l => k_is); (case c => k_is); (case k => k_is)))
    (case m_reduced => k_is)
    (case F_reduced => (refine' L2.fun_mk ?l ?c ?k; (case l => k_is); (case c => k_is); (case k => k_is)))
    (case m_added => k_is)
    (case F_added => (refine' L2.fun_mk ?l ?c ?k; (case l => k_is); (case c => k_is); (case k => k_is)))
    (case m_total => k_is)
    (case F_total => (refine' L2.fun_mk ?l ?c ?k; (case l => k_is); (case c => k_is); (case k => k_is)))
    (case m_column_sums => k_is)
    (case F_column_sums => (refine' L2.fun_mk ?l ?c ?k; (case l => k_is); (case c => k_is); (case k => k_is)))
    (case m_is_table => k_is)
    (case F_is_table => (refine' L2.fun_mk ?l ?c ?k; (case l => k_is); (case c => k_is); (case k => k_is)))
    (case m_built_anew => k_is)
    (case F_built_anew => (refine' L2.fun_mk ?l ?c ?k; (case l => k_is); (case c => k_is); (case k => k_is)))
    (case m_check_table => k_is)
    (case F_check_table => (refine' L2.fun_mk ?l ?c ?k; (case l => k_is); (case c => k_is); (case k => k_is)))
    (case m_rows_of => k_is)
    (case F_rows_of => (refine' L2.fun_mk ?l ?c ?k; (case l => k_is); (case c => k_is); (case k => k_is)))
    (case m_product_of => k_is)
    (case F_product_of => (refine' L2.fun_mk ?l ?c ?k; (case l => k_is); (case c => k_is); (case k => k_is)))
    (case m_common => k_is)
    (case F_common => (refine' L2.fun_mk ?l ?c ?k; (case l => k_is); (case c => k_is); (case k => k_is)))
    (case m_grid_of => k_is)
    (case F_grid_of => (refine' L2.fun_mk ?l ?c ?k; (case l => k_is); (case c => k_is); (case k => k_is)))
    (case m_behind => k_is)
    (case F_behind => (refine' L2.fun_mk ?l ?c ?k; (case l => k_is); (case c => k_is); (case k => k_is)))
    (case m_check_rounds => k_is)
    (case F_check_rounds => (refine' L2.fun_mk ?l ?c ?k; (case l => k_is); (case c => k_is); (case k => k_is)))
    (case m_still_grid => k_is)
    (case F_still_grid => (refine' L2.fun_mk ?l ?c ?k; (case l => k_is); (case c => k_is); (case k => k_is)))
    (case m_power_of => k_is)
    (case F_power_of => (refine' L2.fun_mk ?l ?c ?k; (case l => k_is); (case c => k_is); (case k => k_is)))
    (case m_reduced_by => k_is)
    (case F_reduced_by => (refine' L2.fun_mk ?l ?c ?k; (case l => k_is); (case c => k_is); (case k => k_is)))
    (case m_powered => k_is)
    (case F_powered => (refine' L2.fun_mk ?l ?c ?k; (case l => k_is); (case c => k_is); (case k => k_is)))
    (case m_power => k_is)
    (case F_power => (refine' L2.fun_mk ?l ?c ?k; (case l => k_is); (case c => k_is); (case k => k_is)))
    (case m_keeps_all => k_is)
    (case F_keeps_all => (refine' L2.fun_mk ?l ?c ?k; (case l => k_is); (case c => k_is); (case k => k_is)))
    (case m_check_casks => k_is)
    (case F_check_casks => (refine' L2.fun_mk ?l ?c ?k; (case l => k_is); (case c => k_is); (case k => k_is)))
    (case m_still => k_is)
    (case F_still => (refine' L2.fun_mk ?l ?c ?k; (case l => k_is); (case c => k_is); (case k => k_is)))
    (case m_caught => k_is)
    (case F_caught => (refine' L2.fun_mk ?l ?c ?k; (case l => k_is); (case c => k_is); (case k => k_is)))
    (case m_same => k_is)
    (case F_same => (refine' L2.fun_mk ?l ?c ?k; (case l => k_is); (case c => k_is); (case k => k_is)))
    (case m_no_table => k_is)
    (case F_no_table => (refine' L2.fun_mk ?l ?c ?k; (case l => k_is); (case c => k_is); (case k => k_is)))
    (case m_refusals => k_is)
    (case F_refusals => (refine' L2.fun_mk ?l ?c ?k; (case l => k_is); (case c => k_is); (case k => k_is)))
    (case m_add => k_is)
    (case F_add => (refine' L2.fun_mk ?l ?c ?k; (case l => k_is); (case c => k_is); (case k => k_is)))
    (case m_entry => k_is)
    (case F_entry => (refine' L2.fun_mk ?l ?c ?k; (case l => k_is); (case c => k_is); (case k => k_is)))
    (case m_l_behind => k_is)
    (case F_l_behind => (refine' L2.fun_mk ?l ?c ?k; (case l => k_is); (case c => k_is); (case k => k_is)))
    (case m_l_still => k_is)
    (case F_l_still => (refine' L2.fun_mk ?l ?c ?k; (case l => k_is); (case c => k_is); (case k => k_is)))
    (case m_l_powered => k_is)
    (case F_l_powered => (refine' L2.fun_mk ?l ?c ?k; (case l => k_is); (case c => k_is); (case k => k_is)))
    (case m_right => k_is)
    (case F_right => (refine' L2.fun_mk ?l ?c ?k; (case l => k_is); (case c => k_is); (case k => k_is)))
    (case m_jug => k_is)
    (case F_jug => (refine' L2.fun_mk ?l ?c ?k; (case l => k_is); (case c => k_is); (case k => k_is)))
    (case m_law => k_is)
    (case F_law => (refine' L2.fun_mk ?l ?c ?k; (case l => k_is); (case c => k_is); (case k => k_is)))
    (case c_CaskError => k_is)
    (case c_InvalidTable => k_is)
    (case c_InvalidNumber => k_is)
    (case c_Unlike => k_is)
    (case o_Unlike => (refine' MI.oexC_mk ?l ?r ?s ?e ?t ?k; (case l => k_is); (case r => decide +kernel); (case s => k_is); (case e => k_is); (case t => k_is); (case k => k_is)))
    (case j_Unlike => k_is)
    (case y_Unlike => (refine' ⟨?q1, ?q2, ?q3, ?q4, ?q5, ?q6, ?q7, ?q8⟩; (case q1 => k_is); (case q2 => k_is); (case q3 => k_is); (case q4 => k_is); (case q5 => k_is); (case q6 => k_is); (case q7 => k_is); (case q8 => k_is)))
    (case v_Unlike => k_is)
    (case o_InvalidTable => (refine' MI.oexC_mk ?l ?r ?s ?e ?t ?k; (case l => k_is); (case r => decide +kernel); (case s => k_is); (case e => k_is); (case t => k_is); (case k => k_is)))
    (case j_InvalidTable => k_is)
    (case y_InvalidTable => (refine' ⟨?q1, ?q2, ?q3, ?q4, ?q5, ?q6, ?q7, ?q8⟩; (case q1 => k_is); (case q2 => k_is); (case q3 => k_is); (case q4 => k_is); (case q5 => k_is); (case q6 => k_is); (case q7 => k_is); (case q8 => k_is)))
    (case v_InvalidTable => k_is)
    (case o_InvalidNumber => (refine' MI.oexC_mk ?l ?r ?s ?e ?t ?k; (case l => k_is); (case r => decide +kernel); (case s => k_is); (case e => k_is); (case t => k_is); (case k => k_is)))
    (case j_InvalidNumber => k_is)
    (case y_InvalidNumber => (refine' ⟨?q1, ?q2, ?q3, ?q4, ?q5, ?q6, ?q7, ?q8⟩; (case q1 => k_is); (case q2 => k_is); (case q3 => k_is); (case q4 => k_is); (case q5 => k_is); (case q6 => k_is); (case q7 => k_is); (case q8 => k_is)))
    (case v_InvalidNumber => k_is)
    (case F_init => (refine' L2.fun_mk ?l ?c ?k; (case l => k_is); (case c => k_is); (case k => k_is)))
    (case t_init => k_is)
    (case n_ValueError => k_is)
    (case v_ValueError => k_is)
    (case i_Unlike_InvalidNumber => (refine' MI.kit_mk ?n ?i ?t ?s; (case n => decide); (case i => k_is); (case t => k_is); (case s => k_is)))
    (case i_InvalidTable_InvalidNumber => (refine' MI.kit_mk ?n ?i ?t ?s; (case n => decide); (case i => k_is); (case t => k_is); (case s => k_is)))
    (case i_InvalidNumber_InvalidNumber => exact MI.kit_self)
    (case i_Unlike_InvalidTable => (refine' MI.kit_mk ?n ?i ?t ?s; (case n => decide); (case i => k_is); (case t => k_is); (case s => k_is)))
    (case i_InvalidTable_InvalidTable => exact MI.kit_self)
    (case i_InvalidNumber_InvalidTable => (refine' MI.kit_mk ?n ?i ?t ?s; (case n => decide); (case i => k_is); (case t => k_is); (case s => k_is)))
    (case i_Unlike_Unlike => exact MI.kit_self)
    (case i_InvalidTable_Unlike => (refine' MI.kit_mk ?n ?i ?t ?s; (case n => decide); (case i => k_is); (case t => k_is); (case s => k_is)))
    (case i_InvalidNumber_Unlike => (refine' MI.kit_mk ?n ?i ?t ?s; (case n => decide); (case i => k_is); (case t => k_is); (case s => k_is)))
    (case x_Unlike_CaskError => (refine' MI.exm_mk ?b ?i ?t ?s; (case b => k_is); (case i => k_is); (case t => k_is); (case s => k_is)))
    (case x_InvalidTable_CaskError => (refine' MI.exm_mk ?b ?i ?t ?s; (case b => k_is); (case i => k_is); (case t => k_is); (case s => k_is)))
    (case x_InvalidNumber_CaskError => (refine' MI.exm_mk ?b ?i ?t ?s; (case b => k_is); (case i => k_is); (case t => k_is); (case s => k_is)))
    (case c_MOST_CASKS => k_is)
    (case c_ONE => k_is)
    (case l_ONE => k_is)
    (case r_ONE => exact .cons ⟨_, rfl⟩ (.cons ⟨_, rfl⟩ (.nil)))
    (case y_ONE => decide)
    (case c_ZERO => k_is)
    (case l_ZERO => k_is)
    (case r_ZERO => exact .cons ⟨_, rfl⟩ (.cons ⟨_, rfl⟩ (.nil)))
    (case y_ZERO => decide)
    (case n_gcd => k_is)
    (case n_lcm => k_is)
    (case n_abs => k_is)
    (case n_all => k_is)
    (case n_bool => k_is)
    (case n_int => k_is)
    (case n_isinstance => k_is)
    (case n_len => k_is)
    (case n_list => k_is)
    (case n_max => k_is)
    (case n_range => k_is)
    (case n_repr => k_is)
    (case n_sum => k_is)
    (case n_tuple => k_is)
    (case n_zip => k_is)

