import PyProof.Rows.All
import Wide.All
import OpenK.AllK
import Wide.FinOn
import Lean
import PyProof.EqAt
import PyProof.EqKinds
import PyProof.TupleCall
import PyProof.StationsW
import PyProof.ExcClass2
import PyProof.ExcArgs
import PyProof.ExcArgsOwn
import PyProof.CompFree
import PyProof.CompMap
import PyProof.CompUse
import KE.LcSums
import KE.KUnpack
import KE.KDictSum
import KE.KDictLaws
import PyProof.Rows.BitMore
import KE.BitLaws
import KE.KBits
import PyProof.LongRange
import PyProof.ListRange
import KE.IntBitsLaws
import KE.KRevIter
import PyProof.Rows.Tup
import PyProof.CollectIter
import PyProof.TupleOfGen
import PyProof.DictWalks
import PyProof.StrWalks
import PyProof.ZipIter
import PyProof.TupleIter
import PyProof.WalksMore
import KE.KTurns
import KE.RegKIsAll
import PySem.Challenge.RW_leafframe_k30_pool_refused
set_option Elab.async false
set_option linter.all false
set_option maxRecDepth 100000
namespace L2
open PySem PySem.Spec PyProof.Rows
abbrev Key := Sum Int Str
def keyIs : Key → Value → Bool
  | .inl k, v => Value.isInt k v
  | .inr x, v => Value.isStrOf x v
def keyH (w : World) : Key → Int
  | .inl k => hashInt k
  | .inr x => hashStr w x
theorem keyIs_shape : ∀ {k : Key} {v : Value}, keyIs k v = true → (∃ i t, k = Sum.inl i ∧ v = Value.int i t) ∨ (∃ x t, k = Sum.inr x ∧ v = Value.str x t)
  | .inl i, v, h => by
    obtain ⟨t, e⟩ := Value.isInt_shape (k := i) (v := v) h
    exact .inl ⟨i, t, rfl, e⟩
  | .inr x, v, h => by
    obtain ⟨t, e⟩ := Value.isStrOf_shape (x := x) (v := v) h
    exact .inr ⟨x, t, rfl, e⟩
theorem keyIs_int (i : Int) (t : Tok) : keyIs (.inl i) (.int i t) = true := by simp [keyIs, Value.isInt]
theorem keyIs_str (x : Str) (t : Tok) : keyIs (.inr x) (.str x t) = true := by simp [keyIs, Value.isStrOf]
theorem key_ll (a b : Int) : decide ((Sum.inl a : Key) = Sum.inl b) = (a == b) := by
  by_cases e : a = b
  · subst e; simp
  · have h : ¬ (Sum.inl a : Key) = Sum.inl b := fun q => e (Sum.inl.inj q)
    rw [decide_eq_false h]
    exact (beq_eq_false_iff_ne.mpr e).symm
theorem key_rr (a b : Str) : decide ((Sum.inr a : Key) = Sum.inr b) = decide (a = b) := by
  by_cases e : a = b
  · subst e; simp
  · have h : ¬ (Sum.inr a : Key) = Sum.inr b := fun q => e (Sum.inr.inj q)
    rw [decide_eq_false h, decide_eq_false e]
theorem key_lr (a : Int) (b : Str) : decide ((Sum.inl a : Key) = Sum.inr b) = false := decide_eq_false (fun q => nomatch q)
theorem key_rl (a : Str) (b : Int) : decide ((Sum.inr a : Key) = Sum.inl b) = false := decide_eq_false (fun q => nomatch q)
def mixKind (prog : Program) (w : World) : PySem.KeyKind prog w Key where
  is := keyIs
  hash := keyH w
  inj := fun v a b ha hb => by
    rcases keyIs_shape ha with ⟨i, t, rfl, rfl⟩ | ⟨x, t, rfl, rfl⟩
    · rcases keyIs_shape hb with ⟨j, u, rfl, e⟩ | ⟨y, u, rfl, e⟩
      · injection e with e1 _; rw [e1]
      · exact nomatch e
    · rcases keyIs_shape hb with ⟨j, u, rfl, e⟩ | ⟨y, u, rfl, e⟩
      · exact nomatch e
      · injection e with e1 _; rw [e1]
  byValue := fun k v h => by
    rcases keyIs_shape h with ⟨i, t, rfl, rfl⟩ | ⟨x, t, rfl, rfl⟩ <;> rfl
  pyHash := fun hv h => by
    rcases keyIs_shape hv with ⟨i, t, rfl, rfl⟩ | ⟨x, t, rfl, rfl⟩
    · exact wpAny_pyHash_int h
    · exact wpAny_pyHash_str h
  eqBool := fun hu hv h => by
    rcases keyIs_shape hu with ⟨i, t, rfl, rfl⟩ | ⟨x, t, rfl, rfl⟩
    · rcases keyIs_shape hv with ⟨j, u, rfl, rfl⟩ | ⟨y, u, rfl, rfl⟩
      · rw [key_ll] at h; exact wpAny_eqBool_int h
      · rw [key_lr] at h; exact SeqAt.EqAt.int_str i t y u _ _ _ _ h
    · rcases keyIs_shape hv with ⟨j, u, rfl, rfl⟩ | ⟨y, u, rfl, rfl⟩
      · rw [key_rl] at h; exact SeqAt.EqAt.str_int x t j u _ _ _ _ h
      · rw [key_rr] at h; exact wpAny_eqBool_str h
  «strs» := fun k x t v h => by
    rcases keyIs_shape h with ⟨i, u, rfl, e⟩ | ⟨y, u, rfl, e⟩
    · exact nomatch e
    · injection e with e1 _
      subst e1
      cases v <;> rfl
theorem mixKind_int (prog : Program) (w : World) (i : Int) (t : Tok) : (mixKind prog w).is (.inl i) (.int i t) = true := keyIs_int i t
theorem mixKind_str (prog : Program) (w : World) (x : Str) (t : Tok) : (mixKind prog w).is (.inr x) (.str x t) = true := keyIs_str x t
end L2
namespace L2
open PySem PySem.Spec PyProof.Rows
inductive V where
  | non | bl (b : Bool) | int (i : Int) | str (x : Str) | byt (b : Array UInt8) | flt (b : UInt64) | ref (a : Addr) | ty (n : String)
  deriving DecidableEq
def RelV : V → Value → Prop
  | .non, u => u = Value.none
  | .bl b, u => u = Value.bool b
  | .int i, u => ∃ t, u = Value.int i t
  | .str x, u => ∃ t, u = Value.str x t
  | .byt b, u => ∃ t, u = Value.bytes b t
  | .flt b, u => ∃ t, u = Value.float b t
  | .ref a, u => u = Value.ref a
  | .ty n, u => u = Value.type n
abbrev Vals : List V → List Value → Prop := Paired RelV
theorem Vals.length {xs : List V} {us : List Value} (r : Vals xs us) : xs.length = us.length := Paired.length r
theorem Vals.get : ∀ {xs : List V} {us : List Value} {i : Nat} {x : V}, Vals xs us → xs[i]? = some x → ∃ u, us[i]? = some u ∧ RelV x u
  | _, _, _, _, .nil, e => by simp at e
  | _, _, 0, _, .cons r _, e => by simp at e; subst e; exact ⟨_, rfl, r⟩
  | _, _, i + 1, x, .cons _ t, e => by
    obtain ⟨u, h1, h2⟩ := Vals.get (i := i) (x := x) t (by simpa using e)
    exact ⟨u, by simpa using h1, h2⟩
theorem Vals.set {x : V} {u : Value} (r : RelV x u) : ∀ {xs : List V} {us : List Value} (i : Nat), Vals xs us → Vals (xs.set i x) (us.set i u)
  | _, _, _, .nil => .nil
  | _, _, 0, .cons _ t => .cons r t
  | _, _, i + 1, .cons q t => .cons q (Vals.set r i t)
theorem Vals.append : ∀ {xs ys : List V} {us ws : List Value}, Vals xs us → Vals ys ws → Vals (xs ++ ys) (us ++ ws)
  | _, _, _, _, .nil, s => s
  | _, _, _, _, .cons r t, s => .cons r (Vals.append t s)
theorem Vals.take : ∀ {xs : List V} {us : List Value} (n : Nat), Vals xs us → Vals (xs.take n) (us.take n)
  | _, _, 0, _ => .nil
  | _, _, _ + 1, .nil => .nil
  | _, _, n + 1, .cons r t => .cons r (Vals.take n t)
theorem Vals.drop : ∀ {xs : List V} {us : List Value} (n : Nat), Vals xs us → Vals (xs.drop n) (us.drop n)
  | _, _, 0, r => r
  | _, _, _ + 1, .nil => .nil
  | _, _, n + 1, .cons _ t => Vals.drop n t
def RelO : Option V → Option Value → Prop
  | some v, some u => RelV v u
  | none, none => True
  | _, _ => False
def KV {κ : Type} : List (κ × V) → List (κ × Value) → Prop := Paired fun (p : κ × V) (q : κ × Value) => p.1 = q.1 ∧ RelV p.2 q.2
def kV : Key → V
  | .inl i => .int i
  | .inr x => .str x
inductive HO where
  | lst (xs : List V)
  | tup (xs : List V)
  | dK (kvs : List (Key × V)) | dT (kvs : List (List Key × V))
  | set (S : Int → Bool) (n : Nat)
  | ins (C dx : Addr) (fs : List (Str × V))
  | own (x : Addr)
  | xd (fs : List (Str × V))
  | met (f x : Addr)
  | rng (lo hi : Int)
  | frz (o : Obj) (u : HO)
  | tbl (ps : Array Value)
  | ext (φ : Heap → Prop)
abbrev Hp := Addr → Option HO
def upd (H : Hp) (a : Addr) (o : HO) : Hp := fun b => if b = a then some o else H b
theorem upd_same {H : Hp} {a : Addr} {o : HO} : upd H a o a = some o := by unfold upd; rw [if_pos rfl]
theorem upd_ne {H : Hp} {a b : Addr} {o : HO} (h : b ≠ a) : upd H a o b = H b := by unfold upd; rw [if_neg h]
theorem upd_upd {H : Hp} {a : Addr} {o u : HO} : upd (upd H a o) a u = upd H a u := by
  funext b; unfold upd; split <;> rfl
theorem ne_of {H : Hp} {a b : Addr} {o u : HO} (h : H a = some o) (h' : H b = some u) (d : o ≠ u) : a ≠ b := by
  intro e; subst e; rw [h] at h'; exact d (Option.some.inj h')
theorem ne_of_none {H : Hp} {a b : Addr} {o : HO} (h : H a = some o) (h' : H b = none) : a ≠ b := by
  intro e; subst e; rw [h] at h'; cases h'
section
variable (P : Program) (w : World)
def ObjOk (H : Hp) (h : Heap) (a : Addr) : HO → Prop
  | .lst xs => xs.length ≤ sizeLine ∧ ∃ (its : List Value) (n : Nat), Vals xs its ∧ h.get? a = some { cls := .type "list", data := .seq its.toArray n }
  | .tup xs => xs.length ≤ sizeLine ∧ ∃ its : List Value, Vals xs its ∧ IsTup h a its.toArray
  | .dK kvs => kvs.length ≤ sizeLine ∧ (a == sysModules) = false ∧ ∃ vs, KV kvs vs ∧ h.DictOf (mixKind P w) a vs
  | .dT kvs => kvs.length ≤ sizeLine ∧ (a == sysModules) = false ∧ ∃ xs : List (List Key × Addr × Value),
      Paired (fun (p : List Key × V) (q : List Key × Addr × Value) => p.1 = q.1 ∧ H q.2.1 = some (.tup (p.1.map kV)) ∧ RelV p.2 q.2.2) kvs xs ∧
      ∃ o es ep, h.get? a = some o ∧ o.ExactDict ∧ o.data = .dict es ep ∧ es.toList = xs.map (entryOfKey (tupleKind (mixKind P w))) ∧ (xs.map (·.1)).Nodup
  | .set S n => h.SetOf (intKind P w) a S n
  | .ins C dx fs => H dx = some (.own a) ∧ fs.length ≤ 1000 ∧ dx ≠ a ∧ h.get? a = some (PySem.W.instObj C dx) ∧
      ∃ mA, h.Ns1 dx mA ∧ (∀ f, RelO (fs.lookup f) (mA f)) ∧ PySem.Within mA (fs.map (·.1))
  | .own _ => ∃ o, h.get? a = some o
  | .xd fs => ∃ mA, h.Ns1 a mA ∧ ∀ f, RelO (fs.lookup f) (mA f)
  | .rng lo hi => ∃ t u v, h.get? a = some { cls := .type "range", data := .fields #[.int lo t, .int hi u, .int 1 v] }
  | .frz o u => h.get? a = some o ∧ ObjOk H h a u
  | .tbl ps => h.get? a = some { cls := .none, data := .fields ps }
  | .met f x => h.get? a = some (PySem.W.methodObj (.ref f) (.ref x))
  | .ext φ => φ h ∧ (∃ o, h.get? a = some o) ∧ ∀ h1 h2 : Heap, φ h1 → (∀ o, h1.get? a = some o → h2.get? a = some o) → φ h2
def HOk (H : Hp) (h : Heap) : Prop := ∀ a o, H a = some o → ObjOk P w H h a o
end
section
variable {P : Program} {w : World} {H H' : Hp} {h h' : Heap} {a : Addr} {o : HO}
theorem ObjOk.lt (x : ObjOk P w H h a o) : a < h.objs.size := by
  cases o with
  | lst xs => obtain ⟨_, _, _, _, e⟩ := x; exact Heap.lt_size e
  | tup xs => obtain ⟨_, _, _, p⟩ := x; exact p.lt
  | dK kvs => obtain ⟨_, _, _, _, o, _, _, e, _⟩ := x; exact Heap.lt_size e
  | dT kvs => obtain ⟨_, _, _, _, o, _, _, e, _⟩ := x; exact Heap.lt_size e
  | set S n => obtain ⟨o, _, _, _, e, _⟩ := x; exact Heap.lt_size e
  | ins C dx fs => obtain ⟨_, _, _, e, _⟩ := x; exact Heap.lt_size e
  | own y => obtain ⟨_, e⟩ := x; exact Heap.lt_size e
  | xd fs => obtain ⟨_, ⟨_, _, _, e, _⟩, _⟩ := x; exact Heap.lt_size e
  | rng lo hi => obtain ⟨_, _, _, e⟩ := x; exact Heap.lt_size e
  | frz ob u => obtain ⟨e, _⟩ := x; exact Heap.lt_size e
  | tbl ps => exact Heap.lt_size (show h.get? a = some _ from x)
  | met f y => exact Heap.lt_size (show h.get? a = some _ from x)
  | ext φ => obtain ⟨_, ⟨_, e⟩, _⟩ := x; exact Heap.lt_size e
theorem Paired.mapP {α β : Type} {F G : α → β → Prop} : ∀ {l₁ : List α} {l₂ : List β}, Paired F l₁ l₂ → (∀ a b, F a b → G a b) → Paired G l₁ l₂
  | _, _, .nil, _ => .nil
  | _, _, .cons r t, f => .cons (f _ _ r) (Paired.mapP t f)
theorem ObjOk.stay (x : ObjOk P w H h a o) (k : ∀ b u, (b = a ∨ H b = some (.own a)) → h.get? b = some u → h'.get? b = some u)
    (ho : ∀ b, H b = some (.own a) → H' b = some (.own a)) (ht : ∀ b xs, H b = some (.tup xs) → H' b = some (.tup xs)) : ObjOk P w H' h' a o := by
  induction o with
  | lst xs => obtain ⟨z, its, n, r, e⟩ := x; exact ⟨z, its, n, r, k _ _ (.inl rfl) e⟩
  | tup xs => obtain ⟨z, its, r, ob, e, c⟩ := x; exact ⟨z, its, r, ob, k _ _ (.inl rfl) e, c⟩
  | dK kvs => obtain ⟨z, y, vs, r, ob, es, ep, e, c⟩ := x; exact ⟨z, y, vs, r, ob, es, ep, k _ _ (.inl rfl) e, c⟩
  | dT kvs =>
    obtain ⟨z, y, xs, r, ob, es, ep, e, c⟩ := x
    exact ⟨z, y, xs, Paired.mapP r fun p q z => ⟨z.1, ht _ _ z.2.1, z.2.2⟩, ob, es, ep, k _ _ (.inl rfl) e, c⟩
  | set S n => obtain ⟨ob, es, ep, t, e, c⟩ := x; exact ⟨ob, es, ep, t, k _ _ (.inl rfl) e, c⟩
  | ins C dx fs =>
    obtain ⟨d, z, ne, e, mA, ⟨od, es, ep, e2, c⟩, r⟩ := x
    exact ⟨ho _ d, z, ne, k _ _ (.inl rfl) e, mA, ⟨od, es, ep, k _ _ (.inr d) e2, c⟩, r⟩
  | own y => obtain ⟨ob, e⟩ := x; exact ⟨ob, k _ _ (.inl rfl) e⟩
  | xd fs => obtain ⟨mA, ⟨od, es, ep, e, c⟩, r⟩ := x; exact ⟨mA, ⟨od, es, ep, k _ _ (.inl rfl) e, c⟩, r⟩
  | rng lo hi => obtain ⟨t, u, v, e⟩ := x; exact ⟨t, u, v, k _ _ (.inl rfl) e⟩
  | frz ob u ih => obtain ⟨e, q⟩ := x; exact ⟨k _ _ (.inl rfl) e, ih q⟩
  | tbl ps =>
    have e : h.get? a = some { cls := .none, data := .fields ps } := x
    show h'.get? a = some { cls := .none, data := .fields ps }
    exact k a _ (.inl rfl) e
  | met f y =>
    have e : h.get? a = some (PySem.W.methodObj (.ref f) (.ref y)) := x
    show h'.get? a = some (PySem.W.methodObj (.ref f) (.ref y))
    exact k a _ (.inl rfl) e
  | ext φ => obtain ⟨p, ⟨o, e⟩, st⟩ := x; exact ⟨st _ _ p fun o q => k _ _ (.inl rfl) q, ⟨o, k _ _ (.inl rfl) e⟩, st⟩
theorem HOk.lt (x : HOk P w H h) (e : H a = some o) : a < h.objs.size := (x a o e).lt
theorem HOk.fresh (x : HOk P w H h) (e : h.objs.size ≤ a) : H a = none := by
  cases q : H a with
  | none => rfl
  | some u => exact absurd (Nat.lt_of_lt_of_le (x.lt q) e) (Nat.lt_irrefl _)
theorem HOk.kept (x : HOk P w H h) (k : ∀ b u, h.get? b = some u → h'.get? b = some u) : HOk P w H h' := fun a o e =>
  (x a o e).stay (fun b u _ q => k b u q) (fun _ q => q) fun _ _ q => q
theorem HOk.laid (x : HOk P w H h) (k : ∀ b u, h.get? b = some u → h'.get? b = some u) (hp : h.objs.size ≤ a) (new : ObjOk P w (upd H a o) h' a o) : HOk P w (upd H a o) h' := fun b u e => by
  have hn := x.fresh hp
  by_cases hb : b = a
  · subst hb; rw [upd_same] at e; cases e; exact new
  · rw [upd_ne hb] at e
    exact (x b u e).stay (fun c v _ q => k c v q) (fun c q => by rw [upd_ne (ne_of_none q hn)]; exact q) fun c xs q => by rw [upd_ne (ne_of_none q hn)]; exact q
end
def Rd (H : Hp) (a : Addr) (u : HO) : Prop := H a = some u ∨ ∃ o, H a = some (.frz o u)
theorem Rd.of {H : Hp} {a : Addr} {u : HO} (h : H a = some u) : Rd H a u := .inl h
theorem Rd.ok {P : Program} {w : World} {H : Hp} {h : Heap} {a : Addr} {u : HO} (r : Rd H a u) (x : HOk P w H h) : ObjOk P w H h a u := by
  rcases r with r | ⟨o, r⟩
  · exact x a u r
  · obtain ⟨_, q⟩ := x a _ r
    exact q
def Mut : Option HO → Prop
  | some (.lst _) => True
  | some (.dK _) => True
  | some (.dT _) => True
  | some (.set _ _) => True
  | some (.ins _ _ _) => True
  | some (.ext _) => True
  | _ => False
section
variable {P : Program} {w : World} {H : Hp} {h h' : Heap} {x e : Addr} {o' : HO}
theorem HOk.write (ok : HOk P w H h) (mu : Mut (H x)) (he : e = x ∨ H e = some (.own x)) (k : ∀ b u, b ≠ e → h.get? b = some u → h'.get? b = some u) (heo : ∃ u, h'.get? e = some u)
    (new : ObjOk P w (upd H x o') h' x o') : HOk P w (upd H x o') h' := fun b u q => by
  have nown : ∀ c y, H c = some (.own y) → c ≠ x := fun c y r z => by subst z; rw [r] at mu; exact mu
  have ntup : ∀ c xs, H c = some (.tup xs) → c ≠ x := fun c xs r z => by subst z; rw [r] at mu; exact mu
  by_cases hb : b = x
  · subst hb; rw [upd_same] at q; cases q; exact new
  · rw [upd_ne hb] at q
    by_cases hbe : b = e
    · have q' : H b = some (.own x) := by
        rcases he with z | z
        · exact absurd (hbe.trans z) hb
        · rw [hbe]; exact z
      rw [q] at q'; cases q'
      obtain ⟨v, hv⟩ := heo
      exact ⟨v, by rw [hbe]; exact hv⟩
    · refine (ok b u q).stay (fun c v hc r => k c v ?_ r) (fun c r => by rw [upd_ne (nown c b r)]; exact r) fun c xs r => by rw [upd_ne (ntup c xs r)]; exact r
      rcases hc with rfl | hc
      · exact hbe
      · rintro rfl
        rcases he with z | z
        · exact nown c b hc z
        · rw [hc] at z; cases z; exact hb rfl
end
structure Un (fs ex : List Addr) (H H' : Hp) (h h' : Heap) : Prop where
  keep : ∀ b o, h.get? b = some o → H b = none → b ∉ fs → b ∉ ex → h'.get? b = some o
  slot : ∀ b o, h.get? b = some o → H b = none → b ∈ fs → b ∉ ex → ∃ sl, h'.get? b = some { o with slots := sl }
  free : ∀ b o, h.get? b = some o → H b = none → b ∉ ex → H' b = none
  there : ∀ b o, h.get? b = some o → b ∉ ex → ∃ o', h'.get? b = some o'
  tups : ∀ b xs, H b = some (.tup xs) → H' b = some (.tup xs)
  frzs : ∀ b o u, H b = some (.frz o u) → H' b = some (.frz o u)
  tbls : ∀ b ps, H b = some (.tbl ps) → ∃ more, H' b = some (.tbl (ps ++ more))
section
variable {fs fs' ex ex' : List Addr} {H H1 H2 : Hp} {h h1 h2 h' : Heap} {a x e : Addr} {o : HO}
theorem Un.any (u : Un fs ex H H1 h h1) {b : Addr} {ob : Obj} (q : h.get? b = some ob) (n : H b = none) (hx : b ∉ ex) : ∃ sl, h1.get? b = some { ob with slots := sl } := by
  by_cases hb : b ∈ fs
  · exact u.slot b ob q n hb hx
  · exact ⟨ob.slots, u.keep b ob q n hb hx⟩
theorem Un.kept (k : ∀ b u, h.get? b = some u → h'.get? b = some u) : Un fs ex H H h h' :=
  ⟨fun b ob q _ _ _ => k b ob q, fun b ob q _ _ _ => ⟨ob.slots, k b ob q⟩, fun _ _ _ n _ => n, fun b ob q _ => ⟨ob, k b ob q⟩, fun _ _ q => q, fun _ _ _ q => q, fun _ ps q => ⟨#[], by rw [q]; simp⟩⟩
theorem Un.refl : Un fs ex H H h h := Un.kept fun _ _ q => q
theorem Un.laid (k : ∀ b u, h.get? b = some u → h'.get? b = some u) (hp : h.objs.size ≤ a) (hn : H a = none) : Un fs ex H (upd H a o) h h' where
  keep := fun b u q _ _ _ => k b u q
  slot := fun b u q _ _ _ => ⟨u.slots, k b u q⟩
  free := fun b u q n _ => by rw [upd_ne (Nat.ne_of_lt (Nat.lt_of_lt_of_le (Heap.lt_size q) hp))]; exact n
  there := fun b u q _ => ⟨u, k b u q⟩
  tups := fun b xs q => by rw [upd_ne (ne_of_none q hn)]; exact q
  frzs := fun b u xs q => by rw [upd_ne (ne_of_none q hn)]; exact q
  tbls := fun b ps q => ⟨#[], by rw [upd_ne (ne_of_none q hn), q]; simp⟩
theorem Un.write (mu : Mut (H x)) (he : e = x ∨ H e = some (.own x)) (k : ∀ b u, b ≠ e → h.get? b = some u → h'.get? b = some u) (heo : ∃ u, h'.get? e = some u) : Un fs ex H (upd H x o) h h' := by
  have hx : ∀ b, H b = none → b ≠ x := fun b n z => by subst z; rw [n] at mu; exact mu
  have hb : ∀ b, H b = none → b ≠ e := fun b n z => by
    subst z
    rcases he with r | r
    · exact hx b n r
    · rw [n] at r; cases r
  have hm : ∀ b u, H b = some u → ¬ Mut (some u) → b ≠ x := fun b u q nm z => by subst z; rw [q] at mu; exact nm mu
  refine ⟨fun b u q n _ _ => k b u (hb b n) q, fun b u q n _ _ => ⟨u.slots, k b u (hb b n) q⟩, fun b u q n _ => by rw [upd_ne (hx b n)]; exact n, fun b u q _ => ?_,
    fun b xs q => by rw [upd_ne (hm b _ q fun z => z)]; exact q, fun b u xs q => by rw [upd_ne (hm b _ q fun z => z)]; exact q, fun b ps q => ⟨#[], by rw [upd_ne (hm b _ q fun z => z), q]; simp⟩⟩
  by_cases hbe : b = e
  · subst hbe; exact heo
  · exact ⟨u, k b u hbe q⟩
end
def trk (h : Heap) (H : Hp) : List Addr := (List.range h.objs.size).filter fun a => (H a).isSome
def hidT (h : Heap) (H : Hp) : Heap := PySem.W.hideAll h (trk h H)
theorem hidT_size (h : Heap) (H : Hp) : (hidT h H).objs.size = h.objs.size := PySem.W.hideAll_size _ _
theorem hidT_get {h : Heap} {H : Hp} {b : Addr} {o : Obj} (e : h.get? b = some o) (n : H b = none) : (hidT h H).get? b = some o :=
  PySem.W.hideAll_get _ e fun hm => by
    have q : (H b).isSome = true := (List.mem_filter.mp hm).2
    rw [n] at q; simp at q
theorem of_hidT {h : Heap} {H : Hp} {b : Addr} {o : Obj} (e : (hidT h H).get? b = some o) : h.get? b = some o ∧ H b = none := by
  have e' : h.get? b = some o := PySem.W.of_hideAll (trk h H) e
  refine ⟨e', ?_⟩
  cases q : H b with
  | none => rfl
  | some x =>
    have hm : b ∈ trk h H := List.mem_filter.mpr ⟨List.mem_range.mpr (Heap.lt_size e'), by simp [q]⟩
    have z : (hidT h H).get? b = none := PySem.W.hideAll_none (trk h H) hm
    rw [z] at e; cases e
end L2
namespace L2
open PySem PySem.Spec PyProof.Rows
structure Mod (K : PySem.W.Frag) (mg : Str → Option Value) (base : Heap) : Prop where
  kin : K.In base
  glob : base.Ns mainGlobals mg
  blt : ∃ mb, base.Ns builtinsNs mb ∧ ∀ x : Str, x ≠ "__name__" → mb x = bootBuiltins x
  nolimit : base.NoLimit
structure Cx where
  prog : Program
  w : World
  K : PySem.W.Frag
  mg : Str → Option Value
  base : Heap
  A : Around
  N : List Str
  s₀ : Shared
  H₀ : Hp
  env : Env
  outer : List Env
  stack : List Env
  ex : List Addr
  fn : Str → Bool
  calm : Bool
  pn : List (Addr × Obj)
  xe : Value → Shared → Prop
def frs (l : List Env) : List Addr := l.filterMap (·.frame)
abbrev Cx.fs (X : Cx) : List Addr := frs X.outer
def Vis (sc : Scope) (x : Str) : Prop := sc.names.lookup x = some .local ∨ sc.names.lookup x = some .cell ∨ sc.names.lookup x = some .free
def Loc (sc : Scope) (x : Str) : Prop := sc.names.lookup x = some .local ∨ sc.names.lookup x = some .cell
def Look (env : Env) (h : Heap) (m : Str → Option Value) (x : Str) (u : Value) : Prop :=
  (env.kindOf x = some .local ∧ m x = some u) ∨ ((env.kindOf x = some .cell ∨ env.kindOf x = some .free) ∧ ∃ c, env.cells.lookup x = some c ∧ h.IsCell c (some u))
structure Cx.Ok (X : Cx) : Prop where
  mod : Mod X.K X.mg X.base
  kind : X.env.scope.kind = .function
  glob : X.env.globals = mainGlobals
  blt : X.env.builtins = builtinsNs
  above : X.s₀.heap.objs.size ≤ X.env.locals
  inj : ∀ x y c, X.env.cells.lookup x = some c → X.env.cells.lookup y = some c → x = y
  has : ∀ x, (X.env.kindOf x = some .cell ∨ X.env.kindOf x = some .free) → ∃ c, X.env.cells.lookup x = some c
  cab : ∀ x c, X.fn x = true → X.env.cells.lookup x = some c → X.s₀.heap.objs.size ≤ c
  hd : X.calm = true → X.A.handled = none
  frames : X.A.frames = some X.stack
  stk : X.stack = X.outer ∨ (X.stack = X.env :: X.outer ∧ X.env.frame = some X.env.locals)
  exf : ∀ b ∈ X.ex, b ≠ X.env.locals ∧ ∀ x c, X.env.cells.lookup x = some c → c ≠ b
  bs : ∀ b o, X.base.get? b = some o → X.s₀.heap.get? b = some o ∧ X.H₀ b = none
  bsz : X.base.objs.size ≤ X.s₀.heap.objs.size
  noex : ∀ b o, X.base.get? b = some o → b ∉ X.ex
  exfs : ∀ b ∈ X.ex, b ∉ X.fs
  funs : X.s₀.heap.FunFrames X.base X.outer
  frf : ∀ b ∈ X.fs, X.H₀ b = none
structure Inv (X : Cx) (pins : List (Addr × Obj)) (σ : List (Option V)) (H : Hp) (s : Shared) : Prop where
  ok : X.Ok
  os : s.os = X.s₀.os
  bare : AllBare s.gens
  base : Un X.fs X.ex X.H₀ H X.s₀.heap s.heap
  loc : ∃ m, s.heap.Ns X.env.locals m ∧ ∀ (i : Nat) (x : Str) (v : V), X.N[i]? = some x → σ[i]? = some (some v) → Vis X.env.scope x → ∃ u, RelV v u ∧ Look X.env s.heap m x u
  cell : ∀ x c, X.env.cells.lookup x = some c → ∃ v, s.heap.IsCell c v
  free : H X.env.locals = none
  freeC : ∀ x c, X.env.cells.lookup x = some c → H c = none
  pin : ∀ p ∈ X.pn ++ pins, s.heap.get? p.1 = some p.2 ∧ H p.1 = none ∧ p.1 ≠ X.env.locals ∧ p.1 ∉ X.fs ∧ ∀ v, p.2.data ≠ .cell v
  hok : HOk X.prog X.w H s.heap
  len : σ.length = X.N.length
section
variable {X : Cx} {pins : List (Addr × Obj)} {σ : List (Option V)} {H H' : Hp} {s : Shared} {h' : Heap}
theorem Cx.Ok.nofr (ok : X.Ok) {b : Addr} {o : Obj} (e : X.base.get? b = some o) : b ∉ X.fs := fun hb => by
  have := (ok.funs.mem hb).1
  rw [e] at this; cases this
theorem Inv.bs (I : Inv X pins σ H s) : ∀ b o, X.base.get? b = some o → s.heap.get? b = some o ∧ H b = none := fun b o e =>
  ⟨I.base.keep b o (I.ok.bs b o e).1 (I.ok.bs b o e).2 (I.ok.nofr e) (I.ok.noex b o e), I.base.free b o (I.ok.bs b o e).1 (I.ok.bs b o e).2 (I.ok.noex b o e)⟩
theorem Inv.bk (I : Inv X pins σ H s) : ∀ b o, X.base.get? b = some o → s.heap.get? b = some o := fun b o e => (I.bs b o e).1
theorem Inv.mod (I : Inv X pins σ H s) : Mod X.K X.mg X.base := I.ok.mod
theorem Inv.kIn (I : Inv X pins σ H s) : X.K.In s.heap := I.ok.mod.kin.keeps I.bk
theorem Inv.lt (I : Inv X pins σ H s) : X.env.locals < s.heap.objs.size := let ⟨_, hn, _⟩ := I.loc; hn.lt
theorem Inv.sz (I : Inv X pins σ H s) : X.s₀.heap.objs.size ≤ s.heap.objs.size := Nat.le_trans I.ok.above (Nat.le_of_lt I.lt)
theorem Inv.nofs (I : Inv X pins σ H s) {a : Addr} (h : s.heap.objs.size ≤ a) : a ∉ X.fs := fun hb => by
  obtain ⟨_, o, ho, _⟩ := I.ok.funs.mem hb
  exact absurd (Nat.lt_of_lt_of_le (Heap.lt_size ho) (Nat.le_trans I.sz h)) (Nat.lt_irrefl _)
theorem Inv.cne (I : Inv X pins σ H s) : ∀ x c, X.env.cells.lookup x = some c → c ≠ X.env.locals := fun x c e z => by
  obtain ⟨v, o, ho, hd⟩ := I.cell x c e
  obtain ⟨m, ⟨o', es, ep, ho', hd', _⟩, _⟩ := I.loc
  rw [z, ho'] at ho; cases ho; rw [hd'] at hd; cases hd
theorem Inv.funs (I : Inv X pins σ H s) : s.heap.FunFrames X.base X.outer := by
  have all : ∀ (l : List Env), (∀ b ∈ frs l, b ∈ X.fs) → X.s₀.heap.FunFrames X.base l → s.heap.FunFrames X.base l := by
    intro l
    induction l with
    | nil => intro _ _; trivial
    | cons env r ih =>
      intro hs hl
      obtain ⟨hk, ⟨L, o, hf, hn, ho, hd⟩, hr⟩ := hl
      have hL : L ∈ X.fs := hs L (by unfold frs; rw [List.filterMap_cons, hf]; exact List.mem_cons_self)
      obtain ⟨sl, e⟩ := I.base.slot L o ho (I.ok.frf L hL) hL fun z => I.ok.exfs L z hL
      exact ⟨hk, ⟨L, _, hf, hn, e, hd⟩, ih (fun b hb => hs b (by unfold frs; rw [List.filterMap_cons, hf]; exact List.mem_cons_of_mem _ hb)) hr⟩
  exact all X.outer (fun _ hb => hb) I.ok.funs
theorem Inv.stack (I : Inv X pins σ H s) : s.heap.FunFrames X.base X.stack := by
  rcases I.ok.stk with e | ⟨e, hf⟩
  · rw [e]; exact I.funs
  · rw [e]
    obtain ⟨m, hn, _⟩ := I.loc
    refine .cons (by rw [I.ok.kind]; decide) hf hn ?_ I.funs
    exact Heap.get?_none_of_le (Nat.le_trans I.ok.bsz I.ok.above)
theorem Inv.stkSub (I : Inv X pins σ H s) : ∀ b ∈ frs X.stack, b ∈ X.env.locals :: X.fs := fun b hb => by
  rcases I.ok.stk with e | ⟨e, hf⟩
  · rw [e] at hb; exact List.mem_cons_of_mem _ hb
  · rw [e] at hb
    unfold frs at hb
    rw [List.filterMap_cons, hf] at hb
    exact hb
theorem Inv.stkFree (I : Inv X pins σ H s) : ∀ b ∈ frs X.stack, H b = none := fun b hb => by
  rcases List.mem_cons.mp (I.stkSub b hb) with e | hb
  · rw [e]; exact I.free
  · obtain ⟨_, o, ho, _⟩ := I.ok.funs.mem hb
    exact I.base.free b o ho (I.ok.frf b hb) fun z => I.ok.exfs b z hb
theorem Inv.step {g' : Array GenState} {t' : Nat} {d' : Drawn} {ch : List Addr} (I : Inv X pins σ H s)
    (hch : ∀ b ∈ ch, (b ∈ X.ex ∨ X.s₀.heap.objs.size ≤ b) ∧ b ≠ X.env.locals ∧ (∀ x c, X.env.cells.lookup x = some c → c ≠ b) ∧ ∀ p ∈ X.pn ++ pins, p.1 ≠ b)
    (keep : ∀ b o, b ≠ X.env.locals → b ∉ X.fs → b ∉ ch → s.heap.get? b = some o → H b = none → h'.get? b = some o)
    (slot : ∀ b o, b ≠ X.env.locals → b ∈ X.fs → b ∉ ch → s.heap.get? b = some o → H b = none → ∃ sl, h'.get? b = some { o with slots := sl }) (free : ∀ b o, b ∉ ch → s.heap.get? b = some o → H b = none → H' b = none)
    (there : ∀ b o, b ∉ ch → s.heap.get? b = some o → ∃ o', h'.get? b = some o')
    (tups : ∀ b xs, H b = some (.tup xs) → H' b = some (.tup xs)) (frzs : ∀ b o u, H b = some (.frz o u) → H' b = some (.frz o u)) (tbls : ∀ b ps, H b = some (.tbl ps) → ∃ more, H' b = some (.tbl (ps ++ more)))
    (ns : ∀ m, s.heap.Ns X.env.locals m → h'.Ns X.env.locals m) (hok : HOk X.prog X.w H' h') (hg : AllBare g') :
    Inv X pins σ H' { s with heap := h', gens := g', drawn := d', toks := t' } := by
  have neL : ∀ b o, X.s₀.heap.get? b = some o → b ≠ X.env.locals := fun b o e => Nat.ne_of_lt (Nat.lt_of_lt_of_le (Heap.lt_size e) I.ok.above)
  have neC : ∀ b o, X.s₀.heap.get? b = some o → b ∉ X.ex → b ∉ ch := fun b o e hx hb => by
    rcases (hch b hb).1 with z | z
    · exact hx z
    · exact absurd (Nat.lt_of_lt_of_le (Heap.lt_size e) z) (Nat.lt_irrefl _)
  have cellK : ∀ x c, X.env.cells.lookup x = some c → ∀ v, s.heap.IsCell c v → h'.IsCell c v := fun x c e v ⟨o, ho, hd⟩ => by
    have nch : c ∉ ch := fun z => (hch c z).2.2.1 x c e rfl
    by_cases hc : c ∈ X.fs
    · obtain ⟨sl, q⟩ := slot c o (I.cne x c e) hc nch ho (I.freeC x c e)
      exact ⟨_, q, hd⟩
    · exact ⟨o, keep c o (I.cne x c e) hc nch ho (I.freeC x c e), hd⟩
  refine ⟨I.ok, I.os, hg, ⟨fun b o e n hb hx => ?_, fun b o e n hb hx => ?_, fun b o e n hx => ?_, fun b o e hx => ?_, fun b xs e => tups b xs (I.base.tups b xs e), fun b o xs e => frzs b o xs (I.base.frzs b o xs e), fun b ps e => ?_⟩, ?_, fun x c e => ?_, ?_, fun x c e => ?_, fun p hp => ?_, hok, I.len⟩
  · exact keep b o (neL b o e) hb (neC b o e hx) (I.base.keep b o e n hb hx) (I.base.free b o e n hx)
  · obtain ⟨sl, e1⟩ := I.base.slot b o e n hb hx
    obtain ⟨sl', e2⟩ := slot b _ (neL b o e) hb (neC b o e hx) e1 (I.base.free b o e n hx)
    exact ⟨sl', e2⟩
  · obtain ⟨o', e1⟩ := I.base.there b o e hx
    exact free b o' (neC b o e hx) e1 (I.base.free b o e n hx)
  · obtain ⟨o', e1⟩ := I.base.there b o e hx
    exact there b o' (neC b o e hx) e1
  · obtain ⟨m1, e1⟩ := I.base.tbls b ps e
    obtain ⟨m2, e2⟩ := tbls b _ e1
    exact ⟨m1 ++ m2, by rw [e2, Array.append_assoc]⟩
  · obtain ⟨m, hn, hl⟩ := I.loc
    refine ⟨m, ns m hn, fun i x v e1 e2 e3 => ?_⟩
    obtain ⟨u, r, l⟩ := hl i x v e1 e2 e3
    refine ⟨u, r, ?_⟩
    rcases l with l | ⟨k, c, e, z⟩
    · exact .inl l
    · exact .inr ⟨k, c, e, cellK x c e _ z⟩
  · obtain ⟨v, z⟩ := I.cell x c e
    exact ⟨v, cellK x c e v z⟩
  · obtain ⟨m, ⟨o, _, _, ho, _⟩, _⟩ := I.loc
    exact free _ o (fun z => (hch _ z).2.1 rfl) ho I.free
  · obtain ⟨v, o, ho, hd⟩ := I.cell x c e
    exact free c o (fun z => (hch c z).2.2.1 x c e rfl) ho (I.freeC x c e)
  · obtain ⟨e, n, ne, nf, d⟩ := I.pin p hp
    have nch : p.1 ∉ ch := fun z => (hch p.1 z).2.2.2 p hp rfl
    exact ⟨keep p.1 p.2 ne nf nch e n, free p.1 p.2 nch e n, ne, nf, d⟩
theorem Inv.un {t' : Nat} (I : Inv X pins σ H s) (u : Un X.fs [] H H' s.heap h') (hok : HOk X.prog X.w H' h') : Inv X pins σ H' { s with heap := h', toks := t' } := by
  obtain ⟨m, ⟨o, es, ep, ho, r⟩, _⟩ := id I.loc
  obtain ⟨sl, hL⟩ := u.any ho I.free (by simp)
  exact I.step (g' := s.gens) (d' := s.drawn) (ch := []) (fun _ z => nomatch z) (fun b o _ hb _ e n => u.keep b o e n hb (by simp)) (fun b o _ hb _ e n => u.slot b o e n hb (by simp)) (fun b o _ e n => u.free b o e n (by simp)) (fun b o _ e => u.there b o e (by simp)) u.tups u.frzs u.tbls (fun m' hm => by
    obtain ⟨o', es', ep', ho', r'⟩ := hm
    rw [ho] at ho'; cases ho'
    exact ⟨_, es', ep', hL, r'⟩) hok I.bare
theorem Inv.call {g' : Array GenState} {t' : Nat} {d' : Drawn} {ch : List Addr} (I : Inv X pins σ H s) (u : Un (frs X.stack) ch H H' s.heap h') (hok : HOk X.prog X.w H' h') (hg : AllBare g')
    (hch : ∀ b ∈ ch, (b ∈ X.ex ∨ X.s₀.heap.objs.size ≤ b) ∧ b ≠ X.env.locals ∧ (∀ x c, X.env.cells.lookup x = some c → c ≠ b) ∧ ∀ p ∈ X.pn ++ pins, p.1 ≠ b) :
    Inv X pins σ H' { s with heap := h', gens := g', drawn := d', toks := t' } := by
  obtain ⟨m, ⟨o, es, ep, ho, r⟩, _⟩ := id I.loc
  obtain ⟨sl, hL⟩ := u.any ho I.free fun z => (hch _ z).2.1 rfl
  exact I.step (ch := ch) hch (fun b o hL hb hc e n => u.keep b o e n (fun z => (List.mem_cons.mp (I.stkSub b z)).elim hL hb) hc) (fun b o _ _ hc e n => u.any e n hc) (fun b o hc e n => u.free b o e n hc) (fun b o hc e => u.there b o e hc) u.tups u.frzs u.tbls (fun m' hm => by
    obtain ⟨o', es', ep', ho', r'⟩ := hm
    rw [ho] at ho'; cases ho'
    exact ⟨_, es', ep', hL, r'⟩) hok hg
theorem Inv.turned {t' : Nat} {it : Addr} (I : Inv X pins σ H s) (k : ∀ b o, b ≠ it → s.heap.get? b = some o → h'.get? b = some o) (hn : H it = none) (hL : it ≠ X.env.locals)
    (h1 : it ∈ X.ex ∨ X.s₀.heap.objs.size ≤ it) (h2 : ∀ x c, X.env.cells.lookup x = some c → c ≠ it) (h3 : ∀ p ∈ X.pn ++ pins, p.1 ≠ it) : Inv X pins σ H { s with heap := h', toks := t' } := by
  have nit : ∀ b u, H b = some u → b ≠ it := fun b u e z => by rw [z, hn] at e; cases e
  refine I.step (g' := s.gens) (d' := s.drawn) (ch := [it]) (fun b hb => ?_) (fun b o _ _ hc e _ => k b o (fun z => hc (by simp [z])) e) (fun b o _ _ hc e _ => ⟨o.slots, k b o (fun z => hc (by simp [z])) e⟩) (fun _ _ _ _ n => n)
    (fun b o hc e => ⟨o, k b o (fun z => hc (by simp [z])) e⟩) (fun _ _ e => e) (fun _ _ _ e => e) (fun b ps e => ⟨#[], by rw [e]; simp⟩) (fun m hm => ?_) (fun b u e => ?_) I.bare
  · have e : b = it := by simpa using hb
    subst e
    exact ⟨h1, hL, h2, h3⟩
  · obtain ⟨o, es, ep, ho, r⟩ := hm
    exact ⟨o, es, ep, k _ o (Ne.symm hL) ho, r⟩
  · refine (I.hok b u e).stay (fun c v hc q => k c v ?_ q) (fun _ q => q) fun _ _ q => q
    rcases hc with z | z
    · rw [z]; exact nit b u e
    · exact nit c _ z
theorem Inv.tok (I : Inv X pins σ H s) (t : Nat) : Inv X pins σ H { s with toks := t } := I.un (h' := s.heap) (t' := t) Un.refl I.hok
theorem Inv.kept {t' : Nat} (I : Inv X pins σ H s) (k : ∀ b u, s.heap.get? b = some u → h'.get? b = some u) : Inv X pins σ H { s with heap := h', toks := t' } := I.un (Un.kept k) (I.hok.kept k)
theorem Inv.laid {a : Addr} {o : HO} {t' : Nat} (I : Inv X pins σ H s) (k : ∀ b u, s.heap.get? b = some u → h'.get? b = some u) (hp : s.heap.objs.size ≤ a) (new : ObjOk X.prog X.w (upd H a o) h' a o) :
    Inv X pins σ (upd H a o) { s with heap := h', toks := t' } := I.un (Un.laid k hp (I.hok.fresh hp)) (I.hok.laid k hp new)
theorem Inv.write {x e : Addr} {o : HO} {t' : Nat} (I : Inv X pins σ H s) (mu : Mut (H x)) (he : e = x ∨ H e = some (.own x)) (k : ∀ b u, b ≠ e → s.heap.get? b = some u → h'.get? b = some u) (heo : ∃ u, h'.get? e = some u)
    (new : ObjOk X.prog X.w (upd H x o) h' x o) : Inv X pins σ (upd H x o) { s with heap := h', toks := t' } := I.un (Un.write mu he k heo) (I.hok.write mu he k heo new)
theorem Inv.pins_of {pins' : List (Addr × Obj)} (I : Inv X pins σ H s) (h : ∀ p ∈ pins', s.heap.get? p.1 = some p.2 ∧ H p.1 = none ∧ p.1 ≠ X.env.locals ∧ p.1 ∉ X.fs ∧ ∀ v, p.2.data ≠ .cell v) : Inv X pins' σ H s :=
  ⟨I.ok, I.os, I.bare, I.base, I.loc, I.cell, I.free, I.freeC, fun p hp => (List.mem_append.mp hp).elim (fun z => I.pin p (List.mem_append_left _ z)) (h p), I.hok, I.len⟩
theorem nodup_ix {N : List Str} (hN : N.Nodup) {i j : Nat} {x : Str} (a : N[i]? = some x) (b : N[j]? = some x) : i = j := by
  obtain ⟨h1, e1⟩ := List.getElem?_eq_some_iff.mp a
  obtain ⟨h2, e2⟩ := List.getElem?_eq_some_iff.mp b
  exact (List.getElem_inj hN).mp (e1.trans e2.symm)
theorem store_ok2 {M : Model} {A : Around} {E : Value → Shared → Prop} {i : Nat} {x : Str} {v : V} {u : Value} {Q : Unit → Shared → Prop} (I : Inv X pins σ H s) (hN : X.N.Nodup) (hi : X.N[i]? = some x) (hx : Loc X.env.scope x) (r : RelV v u)
    (h : ∀ s', Inv X pins (σ.set i (some v)) H s' → (∃ a, Heap.SameBut a s.heap s'.heap ∧ (a = X.env.locals ∨ X.env.cells.lookup x = some a)) → Q () s') (hf : X.fn x = true ∨ X.env.scope.names.lookup x = some .local := by first | exact .inl rfl | exact .inr rfl | assumption) : wpAny M A (storeName X.env x u) Q E s := by
  obtain ⟨m, hn, hl⟩ := id I.loc
  have hcls : (X.env.scope.kind == .class || (X.env.scope.kind == .module && X.env.locals != X.env.globals)) = false := by rw [I.ok.kind]; rfl
  have hiσ : i < σ.length := by rw [I.len]; exact (List.getElem?_eq_some_iff.mp hi).1
  have cne := I.cne
  have tracked : ∀ {a : Addr} {h' : Heap}, (∃ o, s.heap.get? a = some o ∧ H a = none) → Heap.SameBut a s.heap h' → HOk X.prog X.w H h' := fun {a h'} ha hs b ob e => by
    obtain ⟨_, _, hfree⟩ := ha
    refine (I.hok b ob e).stay (fun c w' hc q => (hs.2 c ?_).trans q) (fun _ q => q) fun _ _ q => q
    rintro rfl
    rcases hc with rfl | hc
    · rw [hfree] at e; cases e
    · rw [hfree] at hc; cases hc
  rcases hx with hk | hk
  · refine wpAny_storeName_local hk hn (fun h' hn' hs => ?_) hcls
    obtain ⟨oL, _, _, hoL, _⟩ := id hn
    refine h _ ⟨I.ok, I.os, I.bare, ⟨fun b o e n hb hx => ?_, fun b o e n hb hx => ?_, I.base.free, fun b o e hx => ?_, I.base.tups, I.base.frzs, I.base.tbls⟩, ⟨_, hn', fun j y v' e1 e2 e3 => ?_⟩, fun y c e => ?_, I.free, I.freeC, fun p hp => ?_, tracked ⟨oL, hoL, I.free⟩ hs, by simpa using I.len⟩ ⟨_, hs, .inl rfl⟩
    · exact (hs.2 b (Nat.ne_of_lt (Nat.lt_of_lt_of_le (Heap.lt_size e) I.ok.above))).trans (I.base.keep b o e n hb hx)
    · obtain ⟨sl, e1⟩ := I.base.slot b o e n hb hx
      exact ⟨sl, (hs.2 b (Nat.ne_of_lt (Nat.lt_of_lt_of_le (Heap.lt_size e) I.ok.above))).trans e1⟩
    · obtain ⟨o', e1⟩ := I.base.there b o e hx
      exact ⟨o', (hs.2 b (Nat.ne_of_lt (Nat.lt_of_lt_of_le (Heap.lt_size e) I.ok.above))).trans e1⟩
    · by_cases hj : j = i
      · subst hj
        rw [hi] at e1; cases e1
        rw [List.getElem?_set_self hiσ] at e2
        cases e2
        exact ⟨u, r, .inl ⟨hk, by simp⟩⟩
      · rw [List.getElem?_set_ne (Ne.symm hj)] at e2
        obtain ⟨u', r', q⟩ := hl j y v' e1 e2 e3
        refine ⟨u', r', ?_⟩
        rcases q with ⟨k, e⟩ | ⟨k, c, e, z⟩
        · refine .inl ⟨k, ?_⟩
          have : y ≠ x := fun e => hj (nodup_ix hN e1 (e ▸ hi))
          simp [this, e]
        · exact .inr ⟨k, c, e, z.sameBut hs (cne y c e)⟩
    · obtain ⟨w', z⟩ := I.cell y c e
      exact ⟨w', z.sameBut hs (cne y c e)⟩
    · obtain ⟨e, n, ne, nf, d⟩ := I.pin p hp
      exact ⟨(hs.2 p.1 ne).trans e, n, ne, nf, d⟩
  · have hfn : X.fn x = true := by
      rcases hf with z | z
      · exact z
      · rw [z] at hk; cases hk
    obtain ⟨c, hc⟩ := I.ok.has x (.inl hk)
    obtain ⟨w', z⟩ := I.cell x c hc
    refine wpAny_storeName_cell I.ok.kind hk hc z (fun h' hc' hs => ?_)
    obtain ⟨oc, hoc, hocd⟩ := id z
    refine h { s with heap := h' } ⟨I.ok, I.os, I.bare, ⟨fun b o e n hb hx => ?_, fun b o e n hb hx => ?_, I.base.free, fun b o e hx => ?_, I.base.tups, I.base.frzs, I.base.tbls⟩, ⟨m, hn.sameBut hs (Ne.symm (cne x c hc)), fun j y v' e1 e2 e3 => ?_⟩, fun y c' e => ?_, I.free, I.freeC, fun p hp => ?_, tracked ⟨oc, hoc, I.freeC x c hc⟩ hs, by simpa using I.len⟩ ⟨c, hs, .inr hc⟩
    · exact (hs.2 b (Nat.ne_of_lt (Nat.lt_of_lt_of_le (Heap.lt_size e) (I.ok.cab x c hfn hc)))).trans (I.base.keep b o e n hb hx)
    · obtain ⟨sl, e1⟩ := I.base.slot b o e n hb hx
      exact ⟨sl, (hs.2 b (Nat.ne_of_lt (Nat.lt_of_lt_of_le (Heap.lt_size e) (I.ok.cab x c hfn hc)))).trans e1⟩
    · obtain ⟨o', e1⟩ := I.base.there b o e hx
      exact ⟨o', (hs.2 b (Nat.ne_of_lt (Nat.lt_of_lt_of_le (Heap.lt_size e) (I.ok.cab x c hfn hc)))).trans e1⟩
    · by_cases hj : j = i
      · subst hj
        rw [hi] at e1; cases e1
        rw [List.getElem?_set_self hiσ] at e2
        cases e2
        exact ⟨u, r, .inr ⟨.inl hk, c, hc, hc'⟩⟩
      · rw [List.getElem?_set_ne (Ne.symm hj)] at e2
        obtain ⟨u', r', q⟩ := hl j y v' e1 e2 e3
        refine ⟨u', r', ?_⟩
        rcases q with q | ⟨k, c', e, z'⟩
        · exact .inl q
        · refine .inr ⟨k, c', e, z'.sameBut hs ?_⟩
          rintro rfl
          exact hj (nodup_ix hN e1 (I.ok.inj _ _ _ e hc ▸ hi))
    · by_cases hcc : c' = c
      · subst hcc; exact ⟨_, hc'⟩
      · obtain ⟨w2, z2⟩ := I.cell y c' e
        exact ⟨w2, z2.sameBut hs hcc⟩
    · obtain ⟨e, n, ne, nf, d⟩ := I.pin p hp
      refine ⟨(hs.2 p.1 ?_).trans e, n, ne, nf, d⟩
      intro q
      rw [q, hoc] at e
      have q' : oc = p.2 := Option.some.inj e
      exact d w' (by rw [← q']; exact hocd)
theorem store_ok {M : Model} {A : Around} {E : Value → Shared → Prop} {i : Nat} {x : Str} {v : V} {u : Value} {Q : Unit → Shared → Prop} (I : Inv X pins σ H s) (hN : X.N.Nodup) (hi : X.N[i]? = some x) (hx : Loc X.env.scope x) (r : RelV v u)
    (h : ∀ s', Inv X pins (σ.set i (some v)) H s' → Q () s') (hf : X.fn x = true ∨ X.env.scope.names.lookup x = some .local := by first | exact .inl rfl | exact .inr rfl | assumption) : wpAny M A (storeName X.env x u) Q E s :=
  store_ok2 I hN hi hx r (fun s' I' _ => h s' I') hf
theorem Inv.call' {s' : Shared} {ch : List Addr} (I : Inv X pins σ H s) (ho : s'.os = s.os) (u : Un (frs X.stack) ch H H' s.heap s'.heap) (hok : HOk X.prog X.w H' s'.heap) (hg : AllBare s'.gens)
    (hch : ∀ b ∈ ch, (b ∈ X.ex ∨ X.s₀.heap.objs.size ≤ b) ∧ b ≠ X.env.locals ∧ (∀ x c, X.env.cells.lookup x = some c → c ≠ b) ∧ ∀ p ∈ X.pn ++ pins, p.1 ≠ b) : Inv X pins σ H' s' := by
  obtain ⟨h', g', d', t', o'⟩ := s'
  have e : o' = s.os := ho
  subst e
  exact I.call (g' := g') (t' := t') (d' := d') u hok hg hch
end
abbrev XK := Value → Option Addr → Hp → Prop
abbrev St := List (Option V)
abbrev VK := V → Hp → Prop
abbrev TE := St → Hp → VK → Prop
abbrev TT := St → Hp → (Bool → Hp → Prop) → Prop
abbrev TA := St → Hp → (List V → Hp → Prop) → Prop
structure Ends where
  nx : St → Hp → Prop
  rt : VK
  bk : St → Hp → Prop := fun _ _ => False
  ct : St → Hp → Prop := fun _ _ => False
abbrev TS := Ends → St → Hp → Prop
def EP (X : Cx) (pins : List (Addr × Obj)) (σ : St) (Q : VK) (u : Value) (s' : Shared) : Prop := ∃ v H', Inv X pins σ H' s' ∧ RelV v u ∧ Q v H'
def TP (X : Cx) (pins : List (Addr × Obj)) (σ : St) (Q : Bool → Hp → Prop) (b : Bool) (s' : Shared) : Prop := ∃ H', Inv X pins σ H' s' ∧ Q b H'
def AP (X : Cx) (pins : List (Addr × Obj)) (σ : St) (Q : List V → Hp → Prop) (us : List Value) (s' : Shared) : Prop := ∃ vs H', Inv X pins σ H' s' ∧ Vals vs us ∧ Q vs H'
def SP (X : Cx) (pins : List (Addr × Obj)) (D : Ends) (f : Flow) (s' : Shared) : Prop :=
  match f with
  | .next => ∃ σ' H', Inv X pins σ' H' s' ∧ D.nx σ' H'
  | .brk => ∃ σ' H', Inv X pins σ' H' s' ∧ D.bk σ' H'
  | .cont => ∃ σ' H', Inv X pins σ' H' s' ∧ D.ct σ' H'
  | .ret u => ∃ v σ' H', Inv X pins σ' H' s' ∧ RelV v u ∧ D.rt v H'
def PE (X : Cx) (e : Expr) (t : TE) : Prop :=
  ∀ (pins : List (Addr × Obj)) (s : Shared) (σ : St) (H : Hp) (Q : VK), Inv X pins σ H s → t σ H Q → wpAny (model X.prog X.w) X.A (eval e X.env) (EP X pins σ Q) X.xe s
def PT (X : Cx) (e : Expr) (t : TT) : Prop :=
  ∀ (pins : List (Addr × Obj)) (s : Shared) (σ : St) (H : Hp) (Q : Bool → Hp → Prop), Inv X pins σ H s → t σ H Q → wpAny (model X.prog X.w) X.A (isTrue e X.env (eval e X.env)) (TP X pins σ Q) X.xe s
def PW (X : Cx) (e : Expr) (t : TT) : Prop :=
  ∀ (whole : Sem Value) (pins : List (Addr × Obj)) (s : Shared) (σ : St) (H : Hp) (Q : Bool → Hp → Prop), Inv X pins σ H s → t σ H Q → wpAny (model X.prog X.w) X.A (isTrue e X.env whole) (TP X pins σ Q) X.xe s
theorem PW.pt {X : Cx} {e : Expr} {t : TT} (h : PW X e t) : PT X e t := h _
def PA (X : Cx) (es : List Expr) (t : TA) : Prop :=
  ∀ (pos : Pos) (pins : List (Addr × Obj)) (s : Shared) (σ : St) (H : Hp) (Q : List V → Hp → Prop), Inv X pins σ H s → t σ H Q → wpAny (model X.prog X.w) X.A (spliced (backTo pos (starEach es X.env))) (AP X pins σ Q) X.xe s
def PS (X : Cx) (st : Stmt) (t : TS) : Prop :=
  ∀ (pins : List (Addr × Obj)) (s : Shared) (σ : St) (H : Hp) (D : Ends), Inv X pins σ H s → t D σ H → wpAny (model X.prog X.w) X.A (exec st X.env) (SP X pins D) X.xe s
def PSs (X : Cx) (st : List Stmt) (t : TS) : Prop :=
  ∀ (pins : List (Addr × Obj)) (s : Shared) (σ : St) (H : Hp) (D : Ends), Inv X pins σ H s → t D σ H → wpAny (model X.prog X.w) X.A (execs st X.env) (SP X pins D) X.xe s
theorem thn {α : Type} {t : Sem α} {Q Q' : α → Shared → Prop} {M : Model} {A : Around} {E : Value → Shared → Prop} {s : Shared} (h : wpAny M A t Q E s) (hQ : ∀ a s, Q a s → Q' a s) : wpAny M A t Q' E s := wpAny_mono h hQ fun _ _ x => x
end L2
namespace L2
open PySem PySem.Spec PyProof.Rows
section
variable {X : Cx}
def tVar (i : Nat) : TE := fun σ H Q => ∃ v, σ[i]? = some (some v) ∧ Q v H
def tC (v : V) : TE := fun _ H Q => Q v H
theorem pe_var {i : Nat} {x : Str} {pos : Pos} (hN : X.N[i]? = some x) (hv : Vis X.env.scope x) (hd : (x == ("__debug__" : Str)) = false := by decide) (hcd : (x == ("__classdict__" : Str)) = false := by decide) : PE X (.Name x pos) (tVar i) := by
  intro pins s σ H Q I h
  obtain ⟨v, e, h⟩ := h
  obtain ⟨m, hn, hl⟩ := I.loc
  obtain ⟨u, r, l⟩ := hl i x v hN e hv
  have fin : EP X pins σ Q u s := ⟨v, H, I, r, h⟩
  rcases l with ⟨hk, hm⟩ | ⟨hk, c, hc, hcell⟩
  · exact wpAny_Name (wpAny_loadName_local I.ok.kind hk hn hm fin) hd
  · rcases hk with hk | hk
    · exact wpAny_Name (wpAny_loadName_cell I.ok.kind hk hc hcell fin) hd
    · exact wpAny_Name (wpAny_loadName_free I.ok.kind hk hc hcell fin hcd) hd
theorem pe_int {i j pos} : PE X (.Constant (.int i) j pos) (tC (.int i)) := fun _ _ _ H _ I h => wpAny_Constant_int ⟨.int i, H, I.tok _, ⟨_, rfl⟩, h⟩
theorem pe_bl {b j pos} : PE X (.Constant (.bool b) j pos) (tC (.bl b)) := fun _ _ _ H _ I h => Constant_bool ⟨.bl b, H, I, rfl, h⟩
theorem pe_non {j pos} : PE X (.Constant .none j pos) (tC .non) := fun _ _ _ H _ I h => Constant_none ⟨.non, H, I, rfl, h⟩
theorem pe_str {x j pos} : PE X (.Constant (.str x) j pos) (tC (.str x)) := fun _ _ _ H _ I h => Calls.Constant_str ⟨.str x, H, I.tok _, ⟨_, rfl⟩, h⟩
def Gl (X : Cx) (x : Str) : Prop := X.env.kindOf x = some .globalImplicit
theorem ld_glob {E : Value → Shared → Prop} {pins : List (Addr × Obj)} {s : Shared} {σ : St} {H : Hp} {x : Str} {u : Value} {pos : Pos} {Q : Value → Shared → Prop} (I : Inv X pins σ H s) (hg : Gl X x) (hm : X.mg x = some u) (h : Q u s)
    (hd : (x == ("__debug__" : Str)) = false := by decide) : wpAny (model X.prog X.w) X.A (eval (.Name x pos) X.env) Q E s :=
  Calls.Name_function_global I.ok.kind hg (Calls.loadGlobal_global (by rw [I.ok.glob]; exact I.mod.glob.keeps I.bk) hm h) hd
theorem ld_blt {E : Value → Shared → Prop} {pins : List (Addr × Obj)} {s : Shared} {σ : St} {H : Hp} {x : Str} {u : Value} {pos : Pos} {Q : Value → Shared → Prop} (I : Inv X pins σ H s) (hg : Gl X x) (hm : X.mg x = none) (hv : bootBuiltins x = some u) (h : Q u s)
    (hn : x ≠ "__name__" := by decide) (hd : (x == ("__debug__" : Str)) = false := by decide) : wpAny (model X.prog X.w) X.A (eval (.Name x pos) X.env) Q E s := by
  obtain ⟨mb, h1, h2⟩ := I.mod.blt
  exact Calls.Name_function_global I.ok.kind hg (Calls.loadGlobal_builtin (by rw [I.ok.glob]; exact I.mod.glob.keeps I.bk) hm (by rw [I.ok.blt]; exact h1.keeps I.bk) ((h2 x hn).trans hv) h) hd
theorem pe_glob {x : Str} {v : V} {u : Value} {pos : Pos} (hg : Gl X x) (hm : X.mg x = some u) (r : RelV v u) (hd : (x == ("__debug__" : Str)) = false := by decide) : PE X (.Name x pos) (tC v) :=
  fun _ _ _ H _ I h => ld_glob I hg hm ⟨v, H, I, r, h⟩ hd
theorem pe_bltn {x : Str} {v : V} {u : Value} {pos : Pos} (hg : Gl X x) (hm : X.mg x = none) (hv : bootBuiltins x = some u) (r : RelV v u) (hn : x ≠ "__name__" := by decide) (hd : (x == ("__debug__" : Str)) = false := by decide) : PE X (.Name x pos) (tC v) :=
  fun _ _ _ H _ I h => ld_blt I hg hm hv ⟨v, H, I, r, h⟩ hn hd
variable {a b : Expr} {ta tb : TE} {pos : Pos}
def tB (t : TE) : TT := fun σ H Q => t σ H fun x H1 => ∃ c, x = .bl c ∧ Q c H1
theorem pt_val {e : Expr} {t : TE} (h : PE X e t) (he : ∀ whole, isTrue e X.env whole = (do let v ← whole; standAt e.pos; holding [v] (truthy v)) := by intro _; rfl) : PT X e (tB t) := by
  intro pins s σ H Q I hw
  refine isTrue_plain (thn (h pins s σ H _ I hw) fun v s1 ⟨x, H1, I1, r1, q1⟩ => ?_) (he _)
  obtain ⟨d, rfl, q⟩ := q1
  cases r1
  exact wpAny_truthy_bool ⟨H1, I1, q⟩
variable {tA tB' : TT} {rest : List Expr}
def tAnd (t u : TT) : TT := fun σ H Q => t σ H fun c H1 => if c = true then u σ H1 Q else Q false H1
def tOr (t u : TT) : TT := fun σ H Q => t σ H fun c H1 => if c = true then Q true H1 else u σ H1 Q
def tNot (t : TT) : TT := fun σ H Q => t σ H fun c H1 => Q (!c) H1
theorem pw_and1 (ha : PT X a tA) : PW X (.BoolOp .And [a] pos) tA := by
  intro wh pins s σ H Q I h
  refine isTrue_and (thn (ha pins s σ H Q I h) fun c s1 e => ?_)
  cases c with
  | true => exact isTrue_and_nil e
  | false => exact e
theorem pw_or1 (ha : PT X a tA) : PW X (.BoolOp .Or [a] pos) tA := by
  intro wh pins s σ H Q I h
  refine isTrue_or (thn (ha pins s σ H Q I h) fun c s1 e => ?_)
  cases c with
  | false => exact isTrue_or_nil e
  | true => exact e
theorem pw_and (ha : PT X a tA) (hb : PW X (.BoolOp .And (b :: rest) pos) tB') : PW X (.BoolOp .And (a :: b :: rest) pos) (tAnd tA tB') := by
  intro wh pins s σ H Q I h
  refine isTrue_and (thn (ha pins s σ H _ I h) fun c s1 ⟨H1, I1, q1⟩ => ?_)
  cases c with
  | true => exact hb wh pins s1 σ H1 Q I1 q1
  | false => exact ⟨H1, I1, q1⟩
theorem pw_or (ha : PT X a tA) (hb : PW X (.BoolOp .Or (b :: rest) pos) tB') : PW X (.BoolOp .Or (a :: b :: rest) pos) (tOr tA tB') := by
  intro wh pins s σ H Q I h
  refine isTrue_or (thn (ha pins s σ H _ I h) fun c s1 ⟨H1, I1, q1⟩ => ?_)
  cases c with
  | true => exact ⟨H1, I1, q1⟩
  | false => exact hb wh pins s1 σ H1 Q I1 q1
theorem pt_not (ha : PT X a tA) : PT X (.UnaryOp .Not a pos) (tNot tA) := by
  intro pins s σ H Q I h
  exact isTrue_not (ha pins s σ H (fun c H1 => Q (!c) H1) I h)
def tAndV (ta tb : TE) : TE := fun σ H Q => ta σ H fun x H1 => ∃ c, x = .bl c ∧ if c = true then tb σ H1 Q else Q (.bl false) H1
def tNotV (ta : TE) : TE := fun σ H Q => ta σ H fun x H1 => ∃ c, x = .bl c ∧ Q (.bl (!c)) H1
theorem pe_one {op} {t : TE} (h : PE X a t) : PE X (.BoolOp op [a] pos) t := fun pins s σ H Q I hw => BoolOp_one (h pins s σ H Q I hw)
theorem pe_and (ha : PE X a ta) (hb : PE X (.BoolOp .And (b :: rest) pos) tb) : PE X (.BoolOp .And (a :: b :: rest) pos) (tAndV ta tb) := by
  intro pins s σ H Q I h
  refine BoolOp_and (thn (ha pins s σ H _ I h) fun v s1 ⟨x, H1, I1, r1, q1⟩ => ?_)
  obtain ⟨c, rfl, q1⟩ := q1
  cases r1
  refine wpAny_truthy_bool ?_
  cases c with
  | true => exact hb pins s1 σ H1 Q I1 q1
  | false => exact ⟨.bl false, H1, I1, rfl, q1⟩
theorem pe_not (ha : PE X a ta) : PE X (.UnaryOp .Not a pos) (tNotV ta) := by
  intro pins s σ H Q I h
  refine UnaryOp_ (thn (ha pins s σ H _ I h) fun v s1 ⟨x, H1, I1, r1, q1⟩ => ?_)
  obtain ⟨c, rfl, q1⟩ := q1
  cases r1
  exact not_of (wpAny_truthy_bool ⟨.bl (!c), H1, I1, rfl, q1⟩)
end
end L2
namespace L2
open PySem PySem.Spec PyProof.Rows
def SqL (K : PySem.W.Frag) (H : Hp) (a : Addr) (xs : List V) : Prop :=
  Rd H a (.lst xs) ∨
    ∃ (o : Obj) (its : Array Value) (n : Nat), K.lookup a = some o ∧ o.cls = .type "list" ∧ o.dict = none ∧ o.data = .seq its n ∧ its.size ≤ sizeLine ∧ Vals xs its.toList
def SqT (K : PySem.W.Frag) (H : Hp) (a : Addr) (xs : List V) : Prop :=
  Rd H a (.tup xs) ∨
    ∃ (o : Obj) (its : Array Value) (n : Nat), K.lookup a = some o ∧ o.cls = .type "tuple" ∧ o.data = .seq its n ∧ its.size ≤ sizeLine ∧ Vals xs its.toList
def absV : Value → Option V
  | .none => some .non
  | .bool b => some (.bl b)
  | .int i _ => some (.int i)
  | .str x _ => some (.str x)
  | .bytes b _ => some (.byt b)
  | .float b _ => some (.flt b)
  | .ref a => some (.ref a)
  | .type n => some (.ty n)
  | _ => none
theorem RelV.abs {x : V} {u : Value} (r : RelV x u) : absV u = some x := by
  cases x with
  | non => cases r; rfl
  | bl _ => cases r; rfl
  | int _ => obtain ⟨t, rfl⟩ := r; rfl
  | str _ => obtain ⟨t, rfl⟩ := r; rfl
  | byt _ => obtain ⟨t, rfl⟩ := r; rfl
  | flt _ => obtain ⟨t, rfl⟩ := r; rfl
  | ref _ => cases r; rfl
  | ty _ => cases r; rfl
theorem RelV.inj {x y : V} {u : Value} (r : RelV x u) (q : RelV y u) : x = y := Option.some.inj (r.abs.symm.trans q.abs)
theorem Vals.inj : ∀ {xs ys : List V} {us : List Value}, Vals xs us → Vals ys us → xs = ys
  | _, _, _, .nil, .nil => rfl
  | _, _, _, .cons r t, .cons r' t' => by rw [r.inj r', Vals.inj t t']
section
variable {X : Cx} {pins : List (Addr × Obj)} {σ : St} {H : Hp} {s : Shared} {a : Addr} {xs ys : List V}
theorem SqL.of {K : PySem.W.Frag} (h : H a = some (.lst xs)) : SqL K H a xs := .inl (.inl h)
theorem SqT.of {K : PySem.W.Frag} (h : H a = some (.tup xs)) : SqT K H a xs := .inl (.inl h)
theorem Inv.list (I : Inv X pins σ H s) (h : SqL X.K H a xs) : ∃ its : List Value, Vals xs its ∧ PlainL s.heap a its.toArray ∧ xs.length ≤ sizeLine := by
  rcases h with h | ⟨o, its, n, hk, hc, hd, hs, hz, r⟩
  · obtain ⟨z, its, n, r, e⟩ := h.ok I.hok
    exact ⟨its, r, ⟨_, n, e, rfl, rfl, rfl⟩, z⟩
  · refine ⟨its.toList, r, ⟨o, n, I.kIn a o hk, hc, hd, by simpa using hs⟩, ?_⟩
    have e := r.length
    simp only [Array.length_toList] at e
    omega
theorem Inv.tuple (I : Inv X pins σ H s) (h : SqT X.K H a xs) : ∃ its : List Value, Vals xs its ∧ IsTup s.heap a its.toArray ∧ xs.length ≤ sizeLine := by
  rcases h with h | ⟨o, its, n, hk, hc, hs, hz, r⟩
  · obtain ⟨z, its, r, p⟩ := h.ok I.hok
    exact ⟨its, r, p, z⟩
  · refine ⟨its.toList, r, ⟨o, I.kIn a o hk, hc, n, by simpa using hs⟩, ?_⟩
    have e := r.length
    simp only [Array.length_toList] at e
    omega
theorem Inv.list_inj (I : Inv X pins σ H s) (h : SqL X.K H a xs) (h' : SqL X.K H a ys) : xs = ys := by
  obtain ⟨its, r, ⟨o, n, e, _, _, d⟩, _⟩ := I.list h
  obtain ⟨its', r', ⟨o', n', e', _, _, d'⟩, _⟩ := I.list h'
  rw [e] at e'; cases e'
  rw [d] at d'
  injection d' with d1 _
  have : its = its' := by simpa using congrArg Array.toList d1
  subst this
  exact r.inj r'
theorem Inv.tuple_inj (I : Inv X pins σ H s) (h : SqT X.K H a xs) (h' : SqT X.K H a ys) : xs = ys := by
  obtain ⟨its, r, ⟨o, e, _, n, d⟩, _⟩ := I.tuple h
  obtain ⟨its', r', ⟨o', e', _, n', d'⟩, _⟩ := I.tuple h'
  rw [e] at e'; cases e'
  rw [d] at d'
  injection d' with d1 _
  have : its = its' := by simpa using congrArg Array.toList d1
  subst this
  exact r.inj r'
end
section
variable {X : Cx} {pins : List (Addr × Obj)} {σ : St} {H : Hp} {s : Shared} {E : Value → Shared → Prop}
end
section
variable {X : Cx} {st : Stmt} {rest : List Stmt} {t u : TS} {e : Expr} {te : TE} {pos : Pos}
def tNext : TS := fun D σ H => D.nx σ H
def tSeq (t u : TS) : TS := fun D σ H => t { D with nx := u D } σ H
theorem pss_nil : PSs X [] tNext := fun _ _ σ H _ I h => wpAny_execs_nil ⟨σ, H, I, h⟩
theorem pss_cons (h1 : PS X st t) (h2 : PSs X rest u) : PSs X (st :: rest) (tSeq t u) := by
  intro pins s σ H D I h
  refine wpAny_execs_cons (thn (h1 pins s σ H { D with nx := u D } I h) fun f s1 q => ?_)
  cases f with
  | next =>
    obtain ⟨σ', H', I', q⟩ := q
    exact h2 pins s1 σ' H' D I' q
  | ret v => exact q
  | brk => exact q
  | cont => exact q
theorem pss_one (h1 : PS X st t) : PSs X [st] t := by
  intro pins s σ H D I h
  refine wpAny_execs_cons (thn (h1 pins s σ H D I h) fun f s1 q => ?_)
  cases f with
  | next => exact wpAny_execs_nil q
  | ret v => exact q
  | brk => exact q
  | cont => exact q
theorem Inv.quiet {pins : List (Addr × Obj)} {σ : St} {H : Hp} {s : Shared} (I : Inv X pins σ H s) : interactive X.env = false := by simp [interactive, I.ok.kind]
def tDrop (te : TE) : TS := fun D σ H => te σ H fun _ H1 => D.nx σ H1
theorem ps_expr (he : PE X e te) (hs : swapsWith e none pos.line X.env = pure false := by rfl) : PS X (.Expr e pos) (tDrop te) := by
  intro pins s σ H D I h
  exact wpAny_Expr_any (thn (he pins s σ H _ I h) fun v s1 ⟨x, H1, I1, r1, q1⟩ => ⟨σ, H1, I1, q1⟩) I.quiet hs
def tRet (te : TE) : TS := fun D σ H => te σ H D.rt
theorem ps_ret (he : PE X e te) : PS X (.Return (some e) pos) (tRet te) := by
  intro pins s σ H D I h
  exact wpAny_Return_some (thn (he pins s σ H _ I h) fun v s1 ⟨x, H1, I1, r1, q1⟩ => ⟨x, σ, H1, I1, r1, q1⟩)
def tIfS (c : TT) (t u : TS) : TS := fun D σ H => c σ H fun b H1 => if b = true then t D σ H1 else u D σ H1
theorem ps_if {c : Expr} {a b : List Stmt} {tc : TT} (hc : PT X c tc) (ha : PSs X a t) (hb : PSs X b u) : PS X (.If c a b pos) (tIfS tc t u) := by
  intro pins s σ H D I h
  refine wpAny_If (thn (hc pins s σ H _ I h) fun d s1 ⟨H1, I1, q1⟩ => ?_)
  cases d with
  | true => exact ha pins s1 σ H1 D I1 q1
  | false => exact hb pins s1 σ H1 D I1 q1
end
abbrev TG := V → St → Hp → (St → Hp → Prop) → Prop
abbrev TGs := List V → St → Hp → (St → Hp → Prop) → Prop
def PG (X : Cx) (target : Expr) (t : TG) : Prop :=
  ∀ (pins : List (Addr × Obj)) (s : Shared) (σ : St) (H : Hp) (v : V) (u : Value) (Q : St → Hp → Prop), Inv X pins σ H s → RelV v u → t v σ H Q →
    wpAny (model X.prog X.w) X.A (assign target X.env u) (fun _ s' => ∃ σ' H', Inv X pins σ' H' s' ∧ Q σ' H') X.xe s
def PGs (X : Cx) (ts : List Expr) (t : TGs) : Prop :=
  ∀ (pins : List (Addr × Obj)) (s : Shared) (σ : St) (H : Hp) (vs : List V) (us : List Value) (Q : St → Hp → Prop), Inv X pins σ H s → Vals vs us → t vs σ H Q →
    wpAny (model X.prog X.w) X.A (assignInOrder ((assignEach ts X.env).map (·.2)) us) (fun _ s' => ∃ σ' H', Inv X pins σ' H' s' ∧ Q σ' H') X.xe s
abbrev TSet := V → V → V → Hp → (Hp → Prop) → Prop
def PSet (X : Cx) (t : TSet) : Prop :=
  ∀ (pins : List (Addr × Obj)) (s : Shared) (σ : St) (H : Hp) (o i v : V) (ov iv u : Value) (Q : Hp → Prop), Inv X pins σ H s → RelV o ov → RelV i iv → RelV v u → t o i v H Q →
    wpAny (model X.prog X.w) X.A (setItem ov iv u) (fun _ s' => ∃ H', Inv X pins σ H' s' ∧ Q H') X.xe s
section
variable {X : Cx} {pos : Pos}
def gName (i : Nat) : TG := fun v σ H Q => Q (σ.set i (some v)) H
theorem pg_name {i : Nat} {x : Str} (hN : X.N.Nodup) (hi : X.N[i]? = some x) (hx : Loc X.env.scope x) (hf : X.fn x = true ∨ X.env.scope.names.lookup x = some .local := by first | exact .inl rfl | exact .inr rfl | assumption) : PG X (.Name x pos) (gName i) := by
  intro pins s σ H v u Q I r h
  exact wpAny_assign_Name (store_ok I hN hi hx r (fun s' I' => ⟨_, H, I', h⟩) hf)
def gNil : TGs := fun vs σ H Q => vs = [] ∧ Q σ H
def gCons (t : TG) (u : TGs) : TGs := fun vs σ H Q => ∃ v r, vs = v :: r ∧ t v σ H fun σ' H' => u r σ' H' Q
theorem pgs_nil : PGs X [] gNil := by
  intro pins s σ H vs us Q I r h
  obtain ⟨e, h⟩ := h
  subst e
  cases r
  exact assignInOrder_nil ⟨σ, H, I, h⟩
theorem pgs_cons {e : Expr} {es : List Expr} {t : TG} {u : TGs} (h1 : PG X e t) (h2 : PGs X es u)
    (hs : (assignEach (e :: es) X.env).map (·.2) = assign e X.env :: (assignEach es X.env).map (·.2) := by rfl) : PGs X (e :: es) (gCons t u) := by
  intro pins s σ H vs us Q I r h
  obtain ⟨v, vr, e1, h⟩ := h
  subst e1
  cases r with
  | cons r rr =>
    rw [hs]
    refine assignInOrder_cons (thn (h1 pins s σ H _ _ _ I r h) fun _ s1 ⟨σ1, H1, I1, q1⟩ => ?_)
    exact h2 pins s1 σ1 H1 _ _ Q I1 rr q1
def gTup (K : PySem.W.Frag) (n : Nat) (t : TGs) : TG := fun v σ H Q => ∃ a xs, v = .ref a ∧ SqT K H a xs ∧ xs.length = n ∧ t xs σ H Q
theorem pg_tup {es : List Expr} {k : Nat} {t : TGs} {n : Nat} (hc : X.calm = true) (h : PGs X es t)
    (hn : (assignEach es X.env).length = n := by rfl) (hst : (assignEach es X.env).findIdx? (·.1) = none := by rfl) : PG X (.Tuple es k pos) (gTup X.K n t) := by
  intro pins s σ H v u Q I r hw
  obtain ⟨a, xs, e1, hq, hl, hw⟩ := hw
  subst e1
  cases r
  obtain ⟨its, rv, ht, hz⟩ := I.tuple hq
  refine assign_Tuple_tuple (I.ok.hd hc) ht (by simp [hn, ← hl, rv.length]) hst fun h' hx => ?_
  have I1 : Inv X pins σ H { s with heap := h' } := I.kept (t' := s.toks) fun b o e => hx b o (Nat.ne_of_lt (Heap.lt_size e)) e
  exact h pins _ σ H xs _ Q I1 (by simpa using rv) hw
def gSub (to ti : TE) (t : TSet) : TG := fun v σ H Q => to σ H fun o H1 => ti σ H1 fun i H2 => t o i v H2 fun H3 => Q σ H3
theorem pg_sub {o i : Expr} {to ti : TE} {t : TSet} (ho : PE X o to) (hi : PE X i ti) (hs : PSet X t)
    (ha : ∀ v, assign (.Subscript o i pos) X.env v = (do
      let ov ← holding [v] (eval o X.env)
      let iv ← holding [v, ov] (eval i X.env)
      standAt pos
      holding [v, ov, iv] (setItem ov iv v)
      release [v, ov, iv] []) := by intro _; rfl) : PG X (.Subscript o i pos) (gSub to ti t) := by
  intro pins s σ H v u Q I r h
  rw [ha]
  refine wpAny_bind (wpAny_holding (thn (ho pins s σ H _ I h) fun ov s1 ⟨x, H1, I1, r1, q1⟩ => ?_))
  refine wpAny_bind (wpAny_holding (thn (hi pins s1 σ H1 _ I1 q1) fun iv s2 ⟨y, H2, I2, r2, q2⟩ => ?_))
  refine wpAny_bind (wpAny_standAt (wpAny_bind (wpAny_holding (thn (hs pins s2 σ H2 x y v ov iv u _ I2 r1 r2 r q2) fun _ s3 ⟨H3, I3, q3⟩ => ?_))))
  exact wpAny_release ⟨σ, H3, I3, q3⟩
def tAsg (te : TE) (g : TG) : TS := fun D σ H => te σ H fun x H1 => g x σ H1 D.nx
theorem ps_asg {tg e : Expr} {te : TE} {g : TG} (he : PE X e te) (hg : PG X tg g) (hs : swapsWithSole [tg] e pos.line X.env = pure false := by rfl) (hw : swappedStores [tg] e X.env = pure none := by rfl)
    (h1 : (assignEach [tg] X.env).map (·.2) = [assign tg X.env] := by rfl) : PS X (.Assign [tg] e pos) (tAsg te g) := by
  intro pins s σ H D I h
  refine wpAny_Assign_stores (thn (he pins s σ H _ I h) fun v s1 ⟨x, H1, I1, r1, q1⟩ => ?_) hs hw
  rw [h1]
  exact thn (hg pins s1 σ H1 x v _ I1 r1 q1) fun _ s2 q => q
theorem ps_set {i : Nat} {x : Str} {e : Expr} {te : TE} {pos' : Pos} (hN : X.N.Nodup) (hi : X.N[i]? = some x) (hx : Loc X.env.scope x) (he : PE X e te) (hs : swapsWith e (some (.Name x pos')) pos.line X.env = pure false := by rfl) (hf : X.fn x = true ∨ X.env.scope.names.lookup x = some .local := by first | exact .inl rfl | exact .inr rfl | assumption) :
    PS X (.Assign [.Name x pos'] e pos) (tAsg te (gName i)) := by
  intro pins s σ H D I h
  refine wpAny_Assign_Name (thn (he pins s σ H _ I h) fun v s1 ⟨y, H1, I1, r1, q1⟩ => ?_) hs
  exact store_ok I1 hN hi hx r1 (fun s2 I2 => ⟨_, H1, I2, q1⟩) hf
end
section
variable {X : Cx} {pos : Pos}
def tWhile (c : TT) (tb : TS) : TS := fun D σ H => ∃ W : Nat → St → Hp → Prop, (∃ m, W m σ H) ∧ ∀ m σ H, W m σ H →
  c σ H fun b H1 => if b = true then ∃ N : St → Hp → Prop, (∀ σ' H', N σ' H' → ∃ m', m' < m ∧ W m' σ' H') ∧ tb { D with nx := N, ct := N, bk := D.nx } σ H1 else D.nx σ H1
theorem ps_while {c : Expr} {body : List Stmt} {tc : TT} {tb : TS} (hp : PassesOwn (model X.prog X.w) X.A X.env X.xe) (hc : PT X c tc) (hb : PSs X body tb) : PS X (.While c body [] pos) (tWhile tc tb) := by
  intro pins s σ H D I h
  obtain ⟨W, ⟨m0, w0⟩, turn⟩ := h
  refine wpAny_While (codeAny_whileLoop (fun n s' => ∃ σ' H', Inv X pins σ' H' s' ∧ W n σ' H') ?_ m0 ⟨σ, H, I, w0⟩)
  rintro n s1 ⟨σ1, H1, I1, w1⟩
  refine wpAny_passesOwn hp (thn (hc pins s1 σ1 H1 _ I1 (turn n σ1 H1 w1)) fun b s2 ⟨H2, I2, q2⟩ => ?_)
  cases b with
  | true =>
    obtain ⟨N, hN, q2⟩ := q2
    rw [if_pos rfl]
    refine wpAny_passesOwn hp (thn (hb pins s2 σ1 H2 _ I2 q2) fun f s3 q3 => ?_)
    cases f with
    | next =>
      obtain ⟨σ3, H3, I3, n3⟩ := q3
      obtain ⟨m', hm, w3⟩ := hN σ3 H3 n3
      exact ⟨m', hm, σ3, H3, I3, w3⟩
    | cont =>
      obtain ⟨σ3, H3, I3, n3⟩ := q3
      obtain ⟨m', hm, w3⟩ := hN σ3 H3 n3
      exact ⟨m', hm, σ3, H3, I3, w3⟩
    | brk => exact q3
    | ret v => exact q3
  | false =>
    rw [if_neg Bool.false_ne_true]
    exact wpAny_execs_nil ⟨σ1, H2, I2, q2⟩
end
structure It where
  go : Nat → Hp → Prop
  yld : Nat → Hp → V → Hp → Prop
  stop : Nat → Hp → Prop
def FpOk (X : Cx) (pins : List (Addr × Obj)) (H : Hp) (b : Addr) : Prop :=
  H b = none ∧ b ≠ X.env.locals ∧ b ∉ X.fs ∧ (b ∈ X.ex ∨ X.s₀.heap.objs.size ≤ b) ∧ (∀ x c, X.env.cells.lookup x = some c → c ≠ b) ∧ ∀ p ∈ X.pn ++ pins, p.1 ≠ b
theorem Inv.fpOk {X : Cx} {pins : List (Addr × Obj)} {σ : St} {H H' : Hp} {s : Shared} {b : Addr} (I : Inv X pins σ H s) (hb : s.heap.objs.size ≤ b) (hn : H' b = none) : FpOk X pins H' b := by
  refine ⟨hn, Nat.ne_of_gt (Nat.lt_of_lt_of_le I.lt hb), I.nofs hb, .inr (Nat.le_trans I.sz hb), fun x c e z => ?_, fun p hp z => ?_⟩
  · obtain ⟨v, q⟩ := I.cell x c e
    exact absurd (Nat.lt_of_lt_of_le q.lt (by rw [z]; exact hb)) (Nat.lt_irrefl _)
  · exact absurd (Nat.lt_of_lt_of_le (Heap.lt_size (I.pin p hp).1) (by rw [z]; exact hb)) (Nat.lt_irrefl _)
structure Turn (P : Program) (w : World) (K : PySem.W.Frag) (tg : Expr) (J : It) (fp : List Addr) (it : Addr) (tn : Nat → Heap → Prop) : Prop where
  mem : it ∈ fp
  obj : ∀ i h, tn i h → ∀ b ∈ fp, ∃ o, h.get? b = some o ∧ ∀ v, o.data ≠ .cell v
  keep : ∀ i h h', tn i h → (∀ b ∈ fp, ∀ o, h.get? b = some o → h'.get? b = some o) → tn i h'
  item : ∀ (X : Cx), X.prog = P → X.w = w → X.K = K → X.calm = true → ∀ (i : Nat) (pins : List (Addr × Obj)) (s : Shared) (σ : St) (H : Hp) (E : Value → Shared → Prop), Inv X pins σ H s → (∀ b ∈ fp, FpOk X pins H b) → tn i s.heap → J.go i H →
    wpAny (model P w) X.A (pyNext (.ref it)) (fun r s1 => ∃ u, r = some u ∧
      wpAny (model P w) X.A (letOwnedTupleGo tg (.ref it) u) (fun _ s2 => ∃ x H', Inv X pins σ H' s2 ∧ RelV x u ∧ J.yld i H x H' ∧ tn (i + 1) s2.heap ∧ ∀ b ∈ fp, H' b = none) E s1) E s
  done : ∀ (X : Cx), X.prog = P → X.w = w → X.K = K → X.calm = true → ∀ (i : Nat) (pins : List (Addr × Obj)) (s : Shared) (σ : St) (H : Hp) (E : Value → Shared → Prop), Inv X pins σ H s → (∀ b ∈ fp, FpOk X pins H b) → tn i s.heap → J.stop i H →
    wpAny (model P w) X.A (pyNext (.ref it)) (fun r s1 => r = none ∧ Inv X pins σ H s1) E s
  self : ∀ (A : Around) (i : Nat) (s : Shared) (Q : Value → Shared → Prop) (E : Value → Shared → Prop), tn i s.heap → Q (.ref it) s → wpAny (model P w) A (pyIter (.ref it)) Q E s
abbrev TI := St → Hp → (It → Hp → Prop) → Prop
def PIE (X : Cx) (pins : List (Addr × Obj)) (σ : St) (tg : Expr) (R : It → Hp → Prop) (itv : Value) (s2 : Shared) : Prop :=
  ∃ (it : Addr) (fp : List Addr) (tn : Nat → Heap → Prop) (J : It) (H' : Hp), itv = .ref it ∧ Inv X pins σ H' s2 ∧ Turn X.prog X.w X.K tg J fp it tn ∧ tn 0 s2.heap ∧ (∀ b ∈ fp, FpOk X pins H' b) ∧ R J H'
def PI (X : Cx) (tg iter : Expr) (wi : TI) : Prop :=
  ∀ (pins : List (Addr × Obj)) (s : Shared) (σ : St) (H : Hp) (R : It → Hp → Prop), Inv X pins σ H s → wi σ H R →
    wpAny (model X.prog X.w) X.A (eval iter X.env) (fun v s1 => wpAny (model X.prog X.w) X.A (pyIter v) (PIE X pins σ tg R) X.xe s1) X.xe s
theorem go_of {M : Model} {A : Around} {E : Value → Shared → Prop} {s : Shared} {tg : Expr} {it : Addr} {u : Value} {o : Obj} {n : String} {vs : Array Value} {Q : Unit → Shared → Prop} (ho : s.heap.get? it = some o) (hc : o.cls = .type n) (hd : o.data = .fields vs)
    (hn : ["enumerate", "zip", "dict_itemiterator", "dict_reverseitemiterator", "odict_iterator", "itertools.zip_longest", "itertools.pairwise"].contains n = false) (hQ : Q () s) : wpAny M A (letOwnedTupleGo tg (.ref it) u) Q E s := by
  unfold letOwnedTupleGo
  cases tg <;> first
    | exact wpAny_pure hQ
    | (cases u <;> first
        | exact wpAny_pure hQ
        | (refine wpAny_bind (wpAny_load ho ?_)
           rw [hc, hd]
           show wpAny M A (if (["enumerate", "zip", "dict_itemiterator", "dict_reverseitemiterator", "odict_iterator", "itertools.zip_longest", "itertools.pairwise"].contains n && vs[0]? == some (rawInt _)) = true then _ else _) Q E s
           rw [if_neg (by intro h; rw [hn, Bool.false_and] at h; cases h)]
           exact wpAny_pure hQ))
def Itl (K : PySem.W.Frag) (a : Addr) : It :=
  ⟨fun i H => ∃ xs x, SqL K H a xs ∧ xs[i]? = some x, fun i H x H' => H' = H ∧ ∀ xs, SqL K H a xs → xs[i]? = some x, fun i H => ∃ xs, SqL K H a xs ∧ xs.length ≤ i⟩
def Itr (lo : Int) (n : Nat) : It := ⟨fun i _ => i < n, fun i H x H' => H' = H ∧ x = .int (lo + i), fun i _ => n ≤ i⟩
theorem turn_list {P : Program} {w : World} {K : PySem.W.Frag} {tg : Expr} (a it : Addr) : Turn P w K tg (Itl K a) [it] it (fun i h => h.IsListIter it a i) where
  mem := by simp
  obj := fun i h st b hb => by
    have e : b = it := by simpa using hb
    subst e
    obtain ⟨o, e, c, d⟩ := st
    exact ⟨o, e, fun v z => by rw [d] at z; cases z⟩
  keep := fun i h h' st k => st.at fun o e => k it (by simp) o e
  item := by
    intro X hP hw hK hc i pins s σ H E I hf st hg
    subst hP hw hK
    obtain ⟨xs, x, hq, hx⟩ := hg
    obtain ⟨its, rv, p, hz⟩ := I.list hq
    obtain ⟨u, hu, ru⟩ := rv.get hx
    obtain ⟨f0, f1, f2, f3, f4, f5⟩ := hf it (by simp)
    refine wpAny_pyNext_list_item st p.isList (x := u) (by simpa using hu) fun h' st' sb => ?_
    have I1 : Inv X pins σ H { s with heap := h' } := I.turned (t' := s.toks) (fun b o hb e => (sb.2 b hb).trans e) f0 f1 f3 f4 f5
    obtain ⟨o, e, c, d⟩ := id st'
    exact ⟨u, rfl, go_of (s := { s with heap := h' }) e c d (by decide) ⟨x, H, I1, ru, ⟨rfl, fun ys hy => by rw [I.list_inj hy hq]; exact hx⟩, st', fun b hb => (hf b hb).1⟩⟩
  done := by
    intro X hP hw hK hc i pins s σ H E I hf st hg
    subst hP hw hK
    obtain ⟨xs, hq, hx⟩ := hg
    obtain ⟨its, rv, p, hz⟩ := I.list hq
    obtain ⟨f0, f1, f2, f3, f4, f5⟩ := hf it (by simp)
    have hl := rv.length
    exact wpAny_pyNext_list_end (I.ok.hd hc) st p.isList (by simp; omega) fun h' eb => ⟨rfl, I.turned (t' := s.toks) (fun b o hb e => eb b o hb e) f0 f1 f3 f4 f5⟩
  self := fun _ _ _ _ _ st h => wpAny_pyIter_listiter st h
theorem turn_range {P : Program} {w : World} {K : PySem.W.Frag} {tg : Expr} (it : Addr) (lo : Int) (n : Nat) : Turn P w K tg (Itr lo n) [it] it (fun i h => IsRangeIter h it (lo + (i : Nat) * 1) ((n : Int) - (i : Nat)) 1) where
  mem := by simp
  obj := fun i h st b hb => by
    have e : b = it := by simpa using hb
    subst e
    exact ⟨_, st, fun v z => by
      have z' : Data.fields _ = Data.cell v := z
      cases z'⟩
  keep := fun i h h' st k => k it (by simp) _ st
  item := by
    intro X hP hw hK hc i pins s σ H E I hf st hg
    subst hP hw hK
    obtain ⟨f0, f1, f2, f3, f4, f5⟩ := hf it (by simp)
    have W := Walks.range (prog := X.prog) (w := X.w) (I.ok.hd hc) it lo 1 n
    refine W.item i s _ _ hg st fun v h' tk hv st' kk => ?_
    obtain ⟨t, rfl⟩ := hv
    have I1 : Inv X pins σ H { s with heap := h', toks := tk } := I.turned (fun b o hb e => kk b o (by simpa using hb) e) f0 f1 f3 f4 f5
    refine ⟨_, rfl, go_of (s := { s with heap := h', toks := tk }) (n := "range_iterator") st' rfl rfl (by decide) ⟨.int (lo + i), H, I1, ⟨t, ?_⟩, ⟨rfl, rfl⟩, st', fun b hb => (hf b hb).1⟩⟩
    rw [Int.mul_one]
  done := by
    intro X hP hw hK hc i pins s σ H E I hf st hg
    subst hP hw hK
    obtain ⟨f0, f1, f2, f3, f4, f5⟩ := hf it (by simp)
    exact wpAny_pyNext_range_end (I.ok.hd hc) st (by have : n ≤ i := hg; omega) fun h' eb => ⟨rfl, I.turned (t' := s.toks) (fun b o hb e => eb b o hb e) f0 f1 f3 f4 f5⟩
  self := fun _ _ _ _ _ st h => wpAny_pyIter_rangeiter st h
end L2
namespace L2
open PySem PySem.Spec PyProof.Rows
section
variable {X : Cx} {tg : Expr}
def iList (K : PySem.W.Frag) (tl : TE) : TI := fun σ H R => tl σ H fun x H1 => ∃ a, x = .ref a ∧ (∃ xs, SqL K H1 a xs) ∧ R (Itl K a) H1
theorem pi_list {l : Expr} {tl : TE} (hl : PE X l tl) : PI X tg l (iList X.K tl) := by
  intro pins s σ H R I h
  refine thn (hl pins s σ H _ I h) fun v s1 ⟨x, H1, I1, r1, q1⟩ => ?_
  obtain ⟨a, e, ⟨xs, hq⟩, q⟩ := q1
  subst e
  cases r1
  obtain ⟨its, rv, p, hz⟩ := I1.list hq
  refine wpAny_pyIter_list p.isList ?_
  refine ⟨s1.heap.objs.size, [s1.heap.objs.size], _, _, H1, rfl, I1.kept (t' := s1.toks) fun b o e => Heap.get?_push_of_some _ e, turn_list a _, ⟨_, Heap.get?_push_size _ rfl, rfl, rfl⟩, fun b hb => ?_, q⟩
  have e : b = s1.heap.objs.size := by simpa using hb
  subst e
  exact I1.fpOk (Nat.le_refl _) (I1.hok.fresh (Nat.le_refl _))
theorem range_it {pins : List (Addr × Obj)} {σ : St} {H : Hp} {s : Shared} {R : It → Hp → Prop} {E : Value → Shared → Prop} {lo hi : Int} {t u v : Tok} {tk : Nat} (I : Inv X pins σ H s) (h1 : -(2 ^ 62) ≤ lo) (h2 : lo < 2 ^ 62) (h3 : -(2 ^ 62) ≤ hi) (h4 : hi < 2 ^ 62)
    (q : R (Itr lo (hi - lo).toNat) H) : wpAny (model X.prog X.w) X.A (pyIter (.ref s.heap.objs.size)) (PIE X pins σ tg R) E { s with heap := s.heap.push { cls := .type "range", data := .fields #[.int lo t, .int hi u, .int 1 v] }, toks := tk } := by
  refine wpAny_pyIter_range (IsRange.new ..) (small_one h1 h2 h3 h4) ?_
  have I1 : Inv X pins σ H { s with heap := s.heap.push { cls := .type "range", data := .fields #[.int lo t, .int hi u, .int 1 v] }, toks := tk } := I.kept fun b o e => Heap.get?_push_of_some _ e
  refine ⟨(s.heap.push { cls := .type "range", data := .fields #[.int lo t, .int hi u, .int 1 v] }).objs.size, [(s.heap.push { cls := .type "range", data := .fields #[.int lo t, .int hi u, .int 1 v] }).objs.size], _, _, H, rfl,
    I1.kept (t' := tk) fun b o e => Heap.get?_push_of_some _ e, turn_range _ lo (hi - lo).toNat, ?_, fun b hb => ?_, q⟩
  · have e1 : lo + ((0 : Nat) : Int) * 1 = lo := by simp
    have e2 : (((hi - lo).toNat : Nat) : Int) - ((0 : Nat) : Int) = Builtin.Range.rangeSize lo hi 1 := by rw [rangeSize_one]; split <;> omega
    show IsRangeIter _ _ (lo + ((0 : Nat) : Int) * 1) ((((hi - lo).toNat : Nat) : Int) - ((0 : Nat) : Int)) 1
    rw [e1, e2]
    exact Heap.get?_push_size _ rfl
  · have e : b = (s.heap.push { cls := .type "range", data := .fields #[.int lo t, .int hi u, .int 1 v] }).objs.size := by simpa using hb
    subst e
    exact I1.fpOk (Nat.le_refl _) (I1.hok.fresh (Nat.le_refl _))
def iRng1 (ta : TA) : TI := fun σ H R => ta σ H fun vs H1 => ∃ j : Int, vs = [.int j] ∧ -(2 ^ 62) ≤ j ∧ j < 2 ^ 62 ∧ R (Itr 0 j.toNat) H1
theorem pi_range1 {a : Expr} {ta : TA} {p pos : Pos} (hg : Gl X "range") (hm : X.mg "range" = none) (ha : PA X [a] ta) (hs : starEach [a] X.env = [(false, eval a X.env)] := by rfl) : PI X tg (.Call (.Name "range" p) [a] [] pos) (iRng1 ta) := by
  intro pins s σ H R I h
  refine Call_ (ld_blt I hg hm boot_range (PyProof.Rows.callWith_type1 (thn (ha pos pins s σ H _ I h) fun us s1 ⟨vs, H1, I1, r1, q1⟩ => ?_) hs rfl))
  obtain ⟨j, e, q1, q2, q⟩ := q1
  subst e
  cases r1 with
  | cons r rr =>
    cases rr
    obtain ⟨t, rfl⟩ := r
    exact call_range_1 (range_it I1 (by omega) (by omega) q1 q2 (by simpa using q))
def tFor (wi : TI) (g : TG) (tb : TS) : TS := fun D σ H => wi σ H fun J H1 => ∃ W : Nat → Nat → St → Hp → Prop, (∃ m, W 0 m σ H1) ∧ ∀ i m σ H, W i m σ H →
  (J.stop i H ∧ D.nx σ H) ∨ (J.go i H ∧ ∃ N : St → Hp → Prop, (∀ σ' H', N σ' H' → ∃ m', m' < m ∧ W (i + 1) m' σ' H') ∧ ∀ x H', J.yld i H x H' → g x σ H' fun σ2 H2 => tb { D with nx := N, ct := N, bk := D.nx } σ2 H2)
def pinsAt (fp : List Addr) (h : Heap) : List (Addr × Obj) := fp.filterMap fun b => (h.get? b).map fun o => (b, o)
theorem mem_pinsAt {fp : List Addr} {h : Heap} {b : Addr} {o : Obj} (hb : b ∈ fp) (e : h.get? b = some o) : (b, o) ∈ pinsAt fp h := List.mem_filterMap.mpr ⟨b, hb, by rw [e]; rfl⟩
theorem of_pinsAt {fp : List Addr} {h : Heap} {p : Addr × Obj} (hp : p ∈ pinsAt fp h) : p.1 ∈ fp ∧ h.get? p.1 = some p.2 := by
  obtain ⟨b, hb, e⟩ := List.mem_filterMap.mp hp
  cases q : h.get? b with
  | none => rw [q] at e; cases e
  | some o =>
    rw [q] at e
    have e' : (b, o) = p := Option.some.inj e
    subst e'
    exact ⟨hb, q⟩
theorem Inv.pinned {pins : List (Addr × Obj)} {σ : St} {H : Hp} {s : Shared} {fp : List Addr} (I : Inv X pins σ H s) (hf : ∀ b ∈ fp, FpOk X pins H b) (ho : ∀ b ∈ fp, ∃ o, s.heap.get? b = some o ∧ ∀ v, o.data ≠ .cell v) : Inv X (pins ++ pinsAt fp s.heap) σ H s :=
  I.pins_of fun p hp => (List.mem_append.mp hp).elim (fun z => I.pin p (List.mem_append_right _ z)) fun z => by
    obtain ⟨hb, e⟩ := of_pinsAt z
    obtain ⟨f0, f1, f2, _⟩ := hf p.1 hb
    obtain ⟨o, e', d⟩ := ho p.1 hb
    rw [e] at e'; cases e'
    exact ⟨e, f0, f1, f2, d⟩
theorem Inv.unpinned {pins pl : List (Addr × Obj)} {σ : St} {H : Hp} {s : Shared} (I : Inv X (pins ++ pl) σ H s) : Inv X pins σ H s := I.pins_of fun p hp => I.pin p (List.mem_append_right _ (List.mem_append_left _ hp))
theorem ps_for {iter : Expr} {body : List Stmt} {wi : TI} {g : TG} {tb : TS} {pos : Pos} (hp : PassesOwn (model X.prog X.w) X.A X.env X.xe) (hc : X.calm = true) (hi : PI X tg iter wi) (hg : PG X tg g) (hb : PSs X body tb)
    (hs : ∀ x, foldedSetIterable iter X.env x = pure x := by intro _; rfl) : PS X (.For tg iter body [] pos) (tFor wi g tb) := by
  intro pins s σ H D I h
  refine wpAny_For (thn (hi pins s σ H _ I h) fun v s1 h1 => thn h1 fun itv s2 h2 => ?_) hs
  obtain ⟨it, fp, tn, J, H2, e, I2, T, st2, f2, W, ⟨m0, w0⟩, turn⟩ := h2
  subst e
  have stat : ∀ {H' : Hp}, (∀ b ∈ fp, H' b = none) → ∀ b ∈ fp, FpOk X pins H' b := fun hn b hb => ⟨hn b hb, (f2 b hb).2⟩
  refine codeAny_forLoop_any (fun n s' => ∃ i σ' H', Inv X pins σ' H' s' ∧ tn i s'.heap ∧ (∀ b ∈ fp, H' b = none) ∧ W i n σ' H') ?_ m0 ⟨0, σ, H2, I2, st2, fun b hb => (f2 b hb).1, w0⟩
  rintro n s3 ⟨i, σ3, H3, I3, st3, fr3, w3⟩
  rcases turn i n σ3 H3 w3 with ⟨stop, qn⟩ | ⟨go, N, hN, step⟩
  · refine wpAny_passesOwn hp (thn (T.done X rfl rfl rfl hc i pins s3 σ3 H3 X.xe I3 (stat fr3) st3 stop) fun r s4 ⟨hr, I4⟩ => ?_)
    subst hr
    exact wpAny_execs_nil ⟨σ3, H3, I4, qn⟩
  · refine wpAny_passesOwn hp (thn (T.item X rfl rfl rfl hc i pins s3 σ3 H3 X.xe I3 (stat fr3) st3 go) fun r s4 ⟨u, hr, h4⟩ => ?_)
    subst hr
    refine wpAny_passesOwn hp (thn h4 fun _ s5 ⟨x, H5, I5, r5, y5, st5, fr5⟩ => ?_)
    have I5' := I5.pinned (stat fr5) (T.obj _ _ st5)
    refine wpAny_passesOwn hp (thn (hg _ s5 σ3 H5 x u _ I5' r5 (step x H5 y5)) fun _ s6 ⟨σ6, H6, I6, q6⟩ => ?_)
    refine wpAny_passesOwn hp (thn (hb _ s6 σ6 H6 _ I6 q6) fun f s7 q7 => ?_)
    have again : ∀ {σ7 : St} {H7 : Hp}, Inv X (pins ++ pinsAt fp s5.heap) σ7 H7 s7 → N σ7 H7 → ∃ m, m < n ∧ ∃ i σ' H', Inv X pins σ' H' s7 ∧ tn i s7.heap ∧ (∀ b ∈ fp, H' b = none) ∧ W i m σ' H' := fun {σ7 H7} I7 n7 => by
      obtain ⟨m', hm, w7⟩ := hN σ7 H7 n7
      refine ⟨m', hm, i + 1, σ7, H7, I7.unpinned, T.keep _ _ _ st5 fun b hb o e => (I7.pin (b, o) (List.mem_append_right _ (List.mem_append_right _ (mem_pinsAt hb e)))).1, fun b hb => ?_, w7⟩
      obtain ⟨o, e, d⟩ := T.obj _ _ st5 b hb
      exact (I7.pin (b, o) (List.mem_append_right _ (List.mem_append_right _ (mem_pinsAt hb e)))).2.1
    cases f with
    | next => obtain ⟨σ7, H7, I7, n7⟩ := q7; exact again I7 n7
    | cont => obtain ⟨σ7, H7, I7, n7⟩ := q7; exact again I7 n7
    | brk => obtain ⟨σ7, H7, I7, q7⟩ := q7; exact ⟨σ7, H7, I7.unpinned, q7⟩
    | ret v => obtain ⟨x7, σ7, H7, I7, r7, q7⟩ := q7; exact ⟨x7, σ7, H7, I7.unpinned, r7, q7⟩
end
theorem for_list {K : PySem.W.Frag} {a : Addr} {xs : List V} {g : TG} {tb : TS} {D : Ends} {σ : St} {H : Hp} (Pv : Nat → St → Hp → Prop) (h0 : Pv 0 σ H) (hl : ∀ i σ H, i ≤ xs.length → Pv i σ H → SqL K H a xs)
    (hs : ∀ i x σ H, xs[i]? = some x → Pv i σ H → g x σ H fun σ2 H2 => tb { D with nx := Pv (i + 1), ct := Pv (i + 1), bk := D.nx } σ2 H2) (hd : ∀ σ H, Pv xs.length σ H → D.nx σ H) :
    ∃ W : Nat → Nat → St → Hp → Prop, (∃ m, W 0 m σ H) ∧ ∀ i m σ H, W i m σ H →
      ((Itl K a).stop i H ∧ D.nx σ H) ∨ ((Itl K a).go i H ∧ ∃ N : St → Hp → Prop, (∀ σ' H', N σ' H' → ∃ m', m' < m ∧ W (i + 1) m' σ' H') ∧ ∀ x H', (Itl K a).yld i H x H' → g x σ H' fun σ2 H2 => tb { D with nx := N, ct := N, bk := D.nx } σ2 H2) := by
  refine ⟨fun i m σ H => m = xs.length - i ∧ i ≤ xs.length ∧ Pv i σ H, ⟨xs.length, by simp, Nat.zero_le _, h0⟩, ?_⟩
  rintro i m σ H ⟨rfl, hi, p⟩
  have q := hl i σ H hi p
  by_cases hlt : i < xs.length
  · refine .inr ⟨⟨xs, xs[i], q, by simp [hlt]⟩, Pv (i + 1), fun σ' H' p' => ⟨xs.length - (i + 1), by omega, rfl, hlt, p'⟩, fun x H' y => ?_⟩
    obtain ⟨e, y⟩ := y
    subst e
    exact hs i x σ _ (y xs q) p
  · have e : i = xs.length := by omega
    subst e
    exact .inl ⟨⟨xs, q, Nat.le_refl _⟩, hd σ H p⟩
theorem for_range {lo : Int} {n : Nat} {g : TG} {tb : TS} {D : Ends} {σ : St} {H : Hp} (Pv : Nat → St → Hp → Prop) (h0 : Pv 0 σ H)
    (hs : ∀ i σ H, i < n → Pv i σ H → g (.int (lo + i)) σ H fun σ2 H2 => tb { D with nx := Pv (i + 1), ct := Pv (i + 1), bk := D.nx } σ2 H2) (hd : ∀ σ H, Pv n σ H → D.nx σ H) :
    ∃ W : Nat → Nat → St → Hp → Prop, (∃ m, W 0 m σ H) ∧ ∀ i m σ H, W i m σ H →
      ((Itr lo n).stop i H ∧ D.nx σ H) ∨ ((Itr lo n).go i H ∧ ∃ N : St → Hp → Prop, (∀ σ' H', N σ' H' → ∃ m', m' < m ∧ W (i + 1) m' σ' H') ∧ ∀ x H', (Itr lo n).yld i H x H' → g x σ H' fun σ2 H2 => tb { D with nx := N, ct := N, bk := D.nx } σ2 H2) := by
  refine ⟨fun i m σ H => m = n - i ∧ i ≤ n ∧ Pv i σ H, ⟨n, by simp, Nat.zero_le _, h0⟩, ?_⟩
  rintro i m σ H ⟨rfl, hi, p⟩
  by_cases hlt : i < n
  · refine .inr ⟨hlt, Pv (i + 1), fun σ' H' p' => ⟨n - (i + 1), by omega, rfl, hlt, p'⟩, fun x H' y => ?_⟩
    obtain ⟨e, y⟩ := y
    subst e y
    exact hs i σ _ hlt p
  · have e : i = n := by omega
    subst e
    exact .inl ⟨Nat.le_refl _, hd σ H p⟩
end L2
namespace L2
open PySem PySem.Spec PyProof.Rows
abbrev R2 := V → V → Hp → VK → Prop
def OpR (X : Cx) (f : Value → Value → Sem Value) (r : R2) : Prop :=
  ∀ (pins : List (Addr × Obj)) (s : Shared) (σ : St) (H : Hp) (x y : V) (v u : Value) (Q : VK), Inv X pins σ H s → RelV x v → RelV y u → r x y H Q →
    wpAny (model X.prog X.w) X.A (f v u) (EP X pins σ Q) X.xe s
def UnR (X : Cx) (f : Value → Sem Value) (r : V → Hp → VK → Prop) : Prop :=
  ∀ (pins : List (Addr × Obj)) (s : Shared) (σ : St) (H : Hp) (x : V) (v : Value) (Q : VK), Inv X pins σ H s → RelV x v → r x H Q →
    wpAny (model X.prog X.w) X.A (f v) (EP X pins σ Q) X.xe s
def CallR (X : Cx) (f : Value) (r : List V → Hp → VK → Prop) : Prop :=
  ∀ (pins : List (Addr × Obj)) (s : Shared) (σ : St) (H : Hp) (xs : List V) (us : List Value) (Q : VK), Inv X pins σ H s → Vals xs us → r xs H Q →
    wpAny (model X.prog X.w) X.A (call f us) (EP X pins σ Q) X.xe s
def tOp (r : R2) (ta tb : TE) : TE := fun σ H Q => ta σ H fun x H1 => tb σ H1 fun y H2 => r x y H2 Q
def tUn (r : V → Hp → VK → Prop) (ta : TE) : TE := fun σ H Q => ta σ H fun x H1 => r x H1 Q
def rI (C : Int → Int → Prop) (g : Int → Int → V) : R2 := fun x y H Q => ∃ i j, x = .int i ∧ y = .int j ∧ C i j ∧ Q (g i j) H
def rI0 (g : Int → Int → V) : R2 := fun x y H Q => ∃ i j, x = .int i ∧ y = .int j ∧ Q (g i j) H
def rU (g : Int → V) : V → Hp → VK → Prop := fun x H Q => ∃ i, x = .int i ∧ Q (g i) H
section
variable {X : Cx} {a b c : Expr} {ta tb tc : TE} {pos : Pos}
theorem binT (ha : PE X a ta) (hb : PE X b tb) {pins : List (Addr × Obj)} {s : Shared} {σ : St} {H : Hp} {R : V → V → Hp → Prop} (I : Inv X pins σ H s)
    (h : ta σ H fun x H1 => tb σ H1 fun y H2 => R x y H2) {Q : Value → Shared → Prop} {f : Value → Value → Sem Value}
    (hf : ∀ v u s2 x y H2, Inv X pins σ H2 s2 → RelV x v → RelV y u → R x y H2 → wpAny (model X.prog X.w) X.A (f v u) Q X.xe s2) :
    wpAny (model X.prog X.w) X.A (eval a X.env) (fun v s₁ => wpAny (model X.prog X.w) X.A (eval b X.env) (fun u s₂ => wpAny (model X.prog X.w) X.A (f v u) Q X.xe s₂) X.xe s₁) X.xe s := by
  refine thn (ha pins s σ H _ I h) fun v s1 ⟨x, H1, I1, r1, q1⟩ => ?_
  refine thn (hb pins s1 σ H1 _ I1 q1) fun u s2 ⟨y, H2, I2, r2, q2⟩ => ?_
  exact hf v u s2 x y H2 I2 r1 r2 q2
theorem pe_op {op : Operator} {r : R2} (ho : OpR X (binaryOp op) r) (ha : PE X a ta) (hb : PE X b tb) : PE X (.BinOp a op b pos) (tOp r ta tb) := by
  intro pins s σ H Q I h
  exact wpAny_BinOp (binT ha hb I h fun v u s2 x y H2 I2 rx ry q => ho pins s2 σ H2 x y v u Q I2 rx ry q)
theorem pe_un {op : UnaryOp} {r : V → Hp → VK → Prop} (ho : UnR X (unaryOp op) r) (ha : PE X a ta) : PE X (.UnaryOp op a pos) (tUn r ta) := by
  intro pins s σ H Q I h
  exact UnaryOp_ (thn (ha pins s σ H _ I h) fun v s1 ⟨x, H1, I1, r1, q1⟩ => ho pins s1 σ H1 x v Q I1 r1 q1)
theorem opI {f : Value → Value → Sem Value} {C : Int → Int → Prop} {g : Int → Int → Int}
    (rule : ∀ (i j : Int) (t u : Tok) (s : Shared) (Q : Value → Shared → Prop) (E : Value → Shared → Prop), C i j → Q (.int (g i j) s.toks) { s with toks := s.toks + 1 } → wpAny (model X.prog X.w) X.A (f (.int i t) (.int j u)) Q E s) :
    OpR X f (rI C fun i j => .int (g i j)) := by
  intro pins s σ H x y v u Q I rx ry h
  obtain ⟨i, j, rfl, rfl, hc, q⟩ := h
  obtain ⟨t, rfl⟩ := rx
  obtain ⟨t', rfl⟩ := ry
  exact rule i j t t' s _ _ hc ⟨.int (g i j), H, I.tok _, ⟨_, rfl⟩, q⟩
theorem opI0 {f : Value → Value → Sem Value} {g : Int → Int → Int}
    (rule : ∀ (i j : Int) (t u : Tok) (s : Shared) (Q : Value → Shared → Prop) (E : Value → Shared → Prop), Q (.int (g i j) s.toks) { s with toks := s.toks + 1 } → wpAny (model X.prog X.w) X.A (f (.int i t) (.int j u)) Q E s) :
    OpR X f (rI0 fun i j => .int (g i j)) := by
  intro pins s σ H x y v u Q I rx ry h
  obtain ⟨i, j, rfl, rfl, q⟩ := h
  obtain ⟨t, rfl⟩ := rx
  obtain ⟨t', rfl⟩ := ry
  exact rule i j t t' s _ _ ⟨.int (g i j), H, I.tok _, ⟨_, rfl⟩, q⟩
theorem opB0 {f : Value → Value → Sem Value} {g : Int → Int → Bool}
    (rule : ∀ (i j : Int) (t u : Tok) (s : Shared) (Q : Value → Shared → Prop) (E : Value → Shared → Prop), Q (.bool (g i j)) s → wpAny (model X.prog X.w) X.A (f (.int i t) (.int j u)) Q E s) :
    OpR X f (rI0 fun i j => .bl (g i j)) := by
  intro pins s σ H x y v u Q I rx ry h
  obtain ⟨i, j, rfl, rfl, q⟩ := h
  obtain ⟨t, rfl⟩ := rx
  obtain ⟨t', rfl⟩ := ry
  exact rule i j t t' s _ _ ⟨.bl (g i j), H, I, rfl, q⟩
def CDiv (i j : Int) : Prop := 0 < j ∧ j < 1073741824
def CPow (i j : Int) : Prop := 0 ≤ j ∧ j ≤ 1000000 ∧ i.natAbs < 2 ^ 64
def CMul (i j : Int) : Prop := (-(2 ^ 64) < i ∧ i < 2 ^ 64) ∨ (-(2 ^ 64) < j ∧ j < 2 ^ 64)
theorem CMul.ok {i j : Int} (h : CMul i j) : IntMulOk i j := by
  rcases h with ⟨h1, h2⟩ | ⟨h1, h2⟩
  · exact .of_left (intBits_le_64 h1 h2)
  · exact .of_right (intBits_le_64 h1 h2)
theorem op_add : OpR X (binaryOp .Add) (rI0 fun i j => .int (i + j)) := opI0 fun _ _ _ _ _ _ _ q => add_int q
theorem op_sub : OpR X (binaryOp .Sub) (rI0 fun i j => .int (i - j)) := opI0 fun _ _ _ _ _ _ _ q => sub_int q
theorem op_mul : OpR X (binaryOp .Mult) (rI CMul fun i j => .int (i * j)) := opI fun _ _ _ _ _ _ _ hc q => mul_int q hc.ok
theorem op_fdiv : OpR X (binaryOp .FloorDiv) (rI CDiv fun i j => .int (i / j)) := opI fun i j _ _ _ _ _ hc q => by
  have h1 : (0 : Int) < j := hc.1
  have h2 : j < 1073741824 := hc.2
  exact floordiv_int (by omega) (by rw [Int.fdiv_eq_ediv_of_nonneg i (by omega)]; exact q) (.inl (PyProof.noPylong_small (by omega)))
theorem op_mod : OpR X (binaryOp .Mod) (rI (fun _ j => 0 < j) fun i j => .int (i % j)) := opI fun i j _ _ _ _ _ hc q => by
  have h1 : (0 : Int) < j := hc
  exact mod_int' (by omega) (by rw [Int.fmod_eq_emod_of_nonneg i (by omega)]; exact q)
theorem op_pow : OpR X (binaryOp .Pow) (rI CPow fun i j => .int (i ^ j.toNat)) := opI fun _ _ _ _ _ _ _ hc q => pow_int_small hc.1 hc.2.1 hc.2.2 q
theorem unI {f : Value → Sem Value} {g : Int → Int}
    (rule : ∀ (i : Int) (t : Tok) (s : Shared) (Q : Value → Shared → Prop) (E : Value → Shared → Prop), Q (.int (g i) s.toks) { s with toks := s.toks + 1 } → wpAny (model X.prog X.w) X.A (f (.int i t)) Q E s) :
    UnR X f (rU fun i => .int (g i)) := by
  intro pins s σ H x v Q I rx h
  obtain ⟨i, rfl, q⟩ := h
  obtain ⟨t, rfl⟩ := rx
  exact rule i t s _ _ ⟨.int (g i), H, I.tok _, ⟨_, rfl⟩, q⟩
theorem un_neg : UnR X (unaryOp .USub) (rU fun i => .int (-i)) := unI fun _ _ _ _ _ q => neg_int q
end
def scal : V → V → Bool
  | .non, .non => true | .non, .int _ => true | .int _, .non => true | .non, .bl _ => true | .bl _, .non => true | .non, .str _ => true | .str _, .non => true
  | .int _, .int _ => true | .bl _, .bl _ => true | .str _, .str _ => true | .byt _, .byt _ => true
  | .int _, .str _ => true | .str _, .int _ => true | .bl _, .str _ => true | .str _, .bl _ => true
  | _, _ => false
def rEq : R2 := fun x y H Q => scal x y = true ∧ Q (.bl (decide (x = y))) H
def rNe : R2 := fun x y H Q => scal x y = true ∧ Q (.bl (!decide (x = y))) H
theorem dec_int {i j : Int} : decide (V.int i = V.int j) = (i == j) := by
  rw [Bool.eq_iff_iff]
  simp
theorem dec_bl {i j : Bool} : decide (V.bl i = V.bl j) = (i == j) := by
  rw [Bool.eq_iff_iff]
  simp
theorem dec_str {i j : Str} : decide (V.str i = V.str j) = (i == j) := by
  rw [Bool.eq_iff_iff]
  simp
theorem dec_byt {i j : Array UInt8} : decide (V.byt i = V.byt j) = (i.toList == j.toList) := by
  rw [Bool.eq_iff_iff]
  cases i
  cases j
  simp
section
variable {X : Cx} {a b c : Expr} {ta tb tc : TE} {pos : Pos}
theorem fin_bl {pins : List (Addr × Obj)} {σ : St} {H : Hp} {s : Shared} {Q : VK} {k k' : Bool} (I : Inv X pins σ H s) (q : Q (.bl k) H) (e : k = k') : EP X pins σ Q (.bool k') s := by
  subst e
  exact ⟨.bl k, H, I, rfl, q⟩
theorem op_eq : OpR X (compareOp .Eq) rEq := by
  intro pins s σ H x y v u Q I rx ry h
  obtain ⟨hs, q⟩ := h
  cases x with
  | non =>
    cases rx
    cases y with
    | non => cases ry; exact PySem.EqNone.eq_none_none (fin_bl I q (by simp))
    | bl j => cases ry; exact PySem.EqNone.eq_none_bool (fin_bl I q (by simp))
    | int j => obtain ⟨t', rfl⟩ := ry; exact PySem.EqNone.eq_none_int (fin_bl I q (by simp))
    | str j => obtain ⟨t', rfl⟩ := ry; exact PySem.EqNone.eq_none_str (fin_bl I q (by simp))
    | _ => exact absurd (show false = true from hs) Bool.false_ne_true
  | bl i =>
    cases rx
    cases y with
    | non => cases ry; exact PySem.EqNone.eq_bool_none (fin_bl I q (by simp))
    | bl j => cases ry; exact eq_bool (fin_bl I q dec_bl)
    | str j => obtain ⟨t', rfl⟩ := ry; exact PySem.EqMixed.eq_bool_str (fin_bl I q (by simp))
    | _ => exact absurd (show false = true from hs) Bool.false_ne_true
  | int i =>
    obtain ⟨t, rfl⟩ := rx
    cases y with
    | non => cases ry; exact PySem.EqNone.eq_int_none (fin_bl I q (by simp))
    | int j => obtain ⟨t', rfl⟩ := ry; exact eq_int (fin_bl I q dec_int)
    | str j => obtain ⟨t', rfl⟩ := ry; exact PySem.EqMixed.eq_int_str (fin_bl I q (by simp))
    | _ => exact absurd (show false = true from hs) Bool.false_ne_true
  | str i =>
    obtain ⟨t, rfl⟩ := rx
    cases y with
    | non => cases ry; exact PySem.EqNone.eq_str_none (fin_bl I q (by simp))
    | bl j => cases ry; exact PySem.EqMixed.eq_str_bool (fin_bl I q (by simp))
    | int j => obtain ⟨t', rfl⟩ := ry; exact PySem.EqMixed.eq_str_int (fin_bl I q (by simp))
    | str j => obtain ⟨t', rfl⟩ := ry; exact eq_str (fin_bl I q dec_str)
    | _ => exact absurd (show false = true from hs) Bool.false_ne_true
  | byt i =>
    obtain ⟨t, rfl⟩ := rx
    cases y with
    | byt j => obtain ⟨t', rfl⟩ := ry; exact PySem.W.eq_bytes (fin_bl I q dec_byt)
    | _ => exact absurd (show false = true from hs) Bool.false_ne_true
  | _ => cases y <;> exact absurd (show false = true from hs) Bool.false_ne_true
theorem op_ne : OpR X (compareOp .NotEq) rNe := by
  intro pins s σ H x y v u Q I rx ry h
  obtain ⟨hs, q⟩ := h
  cases x with
  | non =>
    cases rx
    cases y with
    | non => cases ry; exact PySem.EqNone.ne_none_none (fin_bl I q (by simp))
    | bl j => cases ry; exact PySem.EqNone.ne_none_bool (fin_bl I q (by simp))
    | int j => obtain ⟨t', rfl⟩ := ry; exact PySem.EqNone.ne_none_int (fin_bl I q (by simp))
    | str j => obtain ⟨t', rfl⟩ := ry; exact PySem.EqNone.ne_none_str (fin_bl I q (by simp))
    | _ => exact absurd (show false = true from hs) Bool.false_ne_true
  | bl i =>
    cases rx
    cases y with
    | non => cases ry; exact PySem.EqNone.ne_bool_none (fin_bl I q (by simp))
    | bl j => cases ry; exact ne_bool (fin_bl I q (congrArg not dec_bl))
    | str j => obtain ⟨t', rfl⟩ := ry; exact PySem.EqMixed.ne_bool_str (fin_bl I q (by simp))
    | _ => exact absurd (show false = true from hs) Bool.false_ne_true
  | int i =>
    obtain ⟨t, rfl⟩ := rx
    cases y with
    | non => cases ry; exact PySem.EqNone.ne_int_none (fin_bl I q (by simp))
    | int j => obtain ⟨t', rfl⟩ := ry; exact ne_int (fin_bl I q (congrArg not dec_int))
    | str j => obtain ⟨t', rfl⟩ := ry; exact PySem.EqMixed.ne_int_str (fin_bl I q (by simp))
    | _ => exact absurd (show false = true from hs) Bool.false_ne_true
  | str i =>
    obtain ⟨t, rfl⟩ := rx
    cases y with
    | non => cases ry; exact PySem.EqNone.ne_str_none (fin_bl I q (by simp))
    | bl j => cases ry; exact PySem.EqMixed.ne_str_bool (fin_bl I q (by simp))
    | int j => obtain ⟨t', rfl⟩ := ry; exact PySem.EqMixed.ne_str_int (fin_bl I q (by simp))
    | str j => obtain ⟨t', rfl⟩ := ry; exact ne_str (fin_bl I q (congrArg not dec_str))
    | _ => exact absurd (show false = true from hs) Bool.false_ne_true
  | byt i =>
    obtain ⟨t, rfl⟩ := rx
    cases y with
    | byt j => obtain ⟨t', rfl⟩ := ry; exact PySem.W.ne_bytes (fin_bl I q (congrArg not dec_byt))
    | _ => exact absurd (show false = true from hs) Bool.false_ne_true
  | _ => cases y <;> exact absurd (show false = true from hs) Bool.false_ne_true
theorem op_lt : OpR X (compareOp .Lt) (rI0 fun i j => .bl (decide (i < j))) := opB0 fun _ _ _ _ _ _ _ q => lt_int q
theorem op_le : OpR X (compareOp .LtE) (rI0 fun i j => .bl (decide (i ≤ j))) := opB0 fun _ _ _ _ _ _ _ q => le_int q
theorem op_gt : OpR X (compareOp .Gt) (rI0 fun i j => .bl (decide (j < i))) := opB0 fun _ _ _ _ _ _ _ q => gt_int q
theorem op_isN : OpR X (compareOp .Is) (fun x y H Q => y = .non ∧ Q (.bl (decide (x = .non))) H) := by
  intro pins s σ H x y v u Q I rx ry h
  obtain ⟨rfl, q⟩ := h
  cases ry
  refine is_none_gen (fin_bl I q ?_)
  cases x <;> first
    | (cases rx; rfl)
    | (obtain ⟨t, rfl⟩ := rx; rfl)
theorem nomark (b : Expr) {op : CmpOp} (h : op ≠ .In := by decide) (h2 : op ≠ .NotIn := by decide) : behindInMarks op b = false := by
  have e1 : (op == CmpOp.In) = false := by cases op <;> first | rfl | exact absurd rfl h
  have e2 : (op == CmpOp.NotIn) = false := by cases op <;> first | rfl | exact absurd rfl h2
  cases b <;> simp [behindInMarks, e1, e2]
theorem pe_cmpR {op : CmpOp} {r : R2} (ho : OpR X (compareOp op) r) (ha : PE X a ta) (hb : PE X b tb) (hm : behindInMarks op b = false) : PE X (.Compare a [op] [b] pos) (tOp r ta tb) := by
  intro pins s σ H Q I h
  exact wpAny_Compare1 (binT ha hb I h fun v u s2 x y H2 I2 rx ry q => ho pins s2 σ H2 x y v u Q I2 rx ry q) hm
def tTest (t : TE) : TT := fun σ H Q => t σ H fun x H' => ∃ k, x = .bl k ∧ Q k H'
theorem pt_cmpR {op : CmpOp} {r : R2} (ho : OpR X (compareOp op) r) (ha : PE X a ta) (hb : PE X b tb) (hm : behindInMarks op b = false) : PT X (.Compare a [op] [b] pos) (tTest (tOp r ta tb)) := by
  intro pins s σ H Q I h
  refine wpAny_isTrue_Compare1 (thn (ha pins s σ H _ I h) fun v s1 ⟨x, H1, I1, r1, q1⟩ => thn (hb pins s1 σ H1 _ I1 q1) fun u s2 ⟨y, H2, I2, r2, q2⟩ =>
    thn (ho pins s2 σ H2 x y v u _ I2 r1 r2 q2) fun c s3 ⟨z, H3, I3, r3, k, e, q3⟩ => ?_) hm
  subst e
  cases r3
  exact wpAny_truthy_bool ⟨H3, I3, q3⟩
def tChain (r r' : R2) (ta tb tc : TE) : TE := fun σ H Q => ta σ H fun x H1 => tb σ H1 fun y H2 => r x y H2 fun z H3 => ∃ k, z = .bl k ∧
  (if k = true then tc σ H3 fun w' H4 => r' y w' H4 Q else Q (.bl false) H3)
theorem pe_chain {op op' : CmpOp} {r r' : R2} (ho : OpR X (compareOp op) r) (ho' : OpR X (compareOp op') r') (ha : PE X a ta) (hb : PE X b tb) (hc : PE X c tc)
    (hm : lastMarks [op, op'] [b, c] = false := by with_unfolding_all rfl) : PE X (.Compare a [op, op'] [b, c] pos) (tChain r r' ta tb tc) := by
  intro pins s σ H Q I h
  refine Compare_chain (thn (ha pins s σ H _ I h) fun v s1 ⟨x, H1, I1, r1, q1⟩ => chain_link (thn (hb pins s1 σ H1 _ I1 q1) fun u s2 ⟨y, H2, I2, r2, q2⟩ =>
    thn (ho pins s2 σ H2 x y v u _ I2 r1 r2 q2) fun d s3 ⟨z, H3, I3, r3, k, e, q3⟩ => ?_)) hm
  subst e
  cases r3
  refine wpAny_truthy_bool ?_
  cases k with
  | false => exact ite_ff ⟨.bl false, H3, I3, rfl, q3⟩
  | true => exact ite_tt (chain_last (thn (hc pins s3 σ H3 _ I3 q3) fun w' s4 ⟨z', H4, I4, r4, q4⟩ => ho' pins s4 σ H4 y z' u w' Q I4 r2 r4 q4))
theorem pt_chain {op op' : CmpOp} {r r' : R2} (ho : OpR X (compareOp op) r) (ho' : OpR X (compareOp op') r') (ha : PE X a ta) (hb : PE X b tb) (hc : PE X c tc)
    (hm : lastMarks [op, op'] [b, c] = false := by with_unfolding_all rfl) : PT X (.Compare a [op, op'] [b, c] pos) (tTest (tChain r r' ta tb tc)) := by
  intro pins s σ H Q I h
  refine isTrue_chain (thn (ha pins s σ H _ I h) fun v s1 ⟨x, H1, I1, r1, q1⟩ => test_link (thn (hb pins s1 σ H1 _ I1 q1) fun u s2 ⟨y, H2, I2, r2, q2⟩ =>
    thn (ho pins s2 σ H2 x y v u _ I2 r1 r2 q2) fun d s3 ⟨z, H3, I3, r3, k, e, q3⟩ => ?_)) hm
  subst e
  cases r3
  refine wpAny_truthy_bool ?_
  cases k with
  | false =>
    obtain ⟨k', e', q'⟩ := q3
    cases e'
    exact ite_ff ⟨H3, I3, q'⟩
  | true =>
    refine ite_tt (test_last (thn (hc pins s3 σ H3 _ I3 q3) fun w' s4 ⟨z', H4, I4, r4, q4⟩ => thn (ho' pins s4 σ H4 y z' u w' _ I4 r2 r4 q4) fun d' s5 ⟨z2, H5, I5, r5, k2, e2, q5⟩ => ?_))
    subst e2
    cases r5
    exact wpAny_truthy_bool ⟨H5, I5, q5⟩
theorem line63 : (sizeLine : Nat) < 2 ^ 63 := by rw [sizeLine_eq]; decide
theorem vals1 {x : V} {us : List Value} (r : Vals [x] us) : ∃ u, us = [u] ∧ RelV x u := by
  cases r with
  | cons r1 r2 => cases r2; exact ⟨_, rfl, r1⟩
theorem vals2 {x y : V} {us : List Value} (r : Vals [x, y] us) : ∃ u w', us = [u, w'] ∧ RelV x u ∧ RelV y w' := by
  cases r with
  | cons r1 r2 =>
    cases r2 with
    | cons r3 r4 => cases r4; exact ⟨_, _, rfl, r1, r3⟩
theorem call_int1 : CallR X (.type "int") (fun xs H Q => (∃ i, xs = [.int i] ∧ Q (.int i) H) ∨ ∃ k, xs = [.bl k] ∧ Q (.int (if k then 1 else 0)) H) := by
  intro pins s σ H xs us Q I r h
  rcases h with ⟨i, rfl, q⟩ | ⟨k, rfl, q⟩
  · obtain ⟨u, rfl, t, rfl⟩ := vals1 r
    exact call_int_int ⟨.int i, H, I, ⟨_, rfl⟩, q⟩
  · obtain ⟨u, rfl, r1⟩ := vals1 r
    cases r1
    exact call_int_bool ⟨.int (if k then 1 else 0), H, I.tok _, ⟨_, rfl⟩, q⟩
end
end L2
namespace L2
open PySem PySem.Spec PyProof.Rows
structure ObjM (h : Heap) (x dx C : Addr) (mA : Str → Option Value) : Prop where
  obj : h.get? x = some (PySem.W.instObj C dx)
  ns : h.Ns1 dx mA
  ne : dx ≠ x
theorem lookIn_ns {h : Heap} {dx : Addr} {mA : Str → Option Value} (n : h.Ns1 dx mA) : ∃ od, h.get? dx = some od ∧ ∀ name, PySem.W.lookIn name od = some (mA name) := by
  obtain ⟨o, es, ep, ho, hd, hk, _, hm⟩ := n
  refine ⟨o, ho, fun name => ?_⟩
  have e := hm name
  unfold nsFind findBy at e
  rw [← Array.find?_toList] at e
  unfold PySem.W.lookIn
  rw [hd]
  dsimp only
  split
  · rename_i y q
    rw [q] at e
    exact congrArg some e
  · rename_i q
    rw [q] at e
    have a : es.toList.any (·.refKey) = false := by
      rw [List.any_eq_false]
      intro y hy
      obtain ⟨z, t, hkey⟩ := hk y (Array.mem_toList_iff.mp hy)
      simp [DictEntry.refKey, hkey]
    have a' : ¬ es.toList.any (·.refKey) = true := by rw [a]; exact Bool.false_ne_true
    rw [if_neg a']
    exact congrArg some e
theorem ObjM.look {h : Heap} {x dx C : Addr} {mA : Str → Option Value} (I : ObjM h x dx C mA) : ∃ od, PySem.W.InstAt h x (PySem.W.instObj C dx) C (some od) ∧ ∀ name, PySem.W.lookIn name od = some (mA name) :=
  let ⟨od, ho, hl⟩ := lookIn_ns I.ns
  ⟨od, ⟨I.obj, rfl, rfl, ho⟩, hl⟩
section
variable {prog : Program} {w : World} {A : Around} {E : Value → Shared → Prop} {s : Shared} {K : PySem.W.Frag} {x dx C f : Addr} {mA : Str → Option Value} {name : Str} {v : Value}
theorem get_map {expr : Bool} {Q : Value → Shared → Prop} (X : K.In s.heap) (I : ObjM s.heap x dx C mA) (hg : PySem.W.plainGet K C name = true) (hh : PySem.W.hasDictIn K C = true)
    (ha : PySem.W.findIn K (.ref C) name = some none) (hv : mA name = some v) (hv' : PySem.W.handedIn v = true) (h : Q v { s with toks := s.toks + 1 }) :
    wpAny (model prog w) A (getAttr (.ref x) name expr) Q E s := by
  obtain ⟨od, J, hl⟩ := I.look
  exact PySem.W.get_value X J (PySem.W.plainGet_of hg).1 (PySem.W.findObj_own hh ha rfl (by rw [hl, hv])) hv' h
theorem get_meth {pl : Sem Bool} {Q : Value × List Value → Shared → Prop} (X : K.In s.heap) (I : ObjM s.heap x dx C mA) (hg : PySem.W.plainGet K C name = true)
    (hf : PySem.W.findIn K (.ref C) name = some (some (.ref f))) (ht : PySem.W.isFn K (.ref f) = true) (hv : mA name = none) (h : Q (.ref f, [.ref x]) s) :
    wpAny (model prog w) A (getMethod (.ref x) name pl) Q E s := by
  obtain ⟨od, J, hl⟩ := I.look
  exact PySem.W.method_fn X J (PySem.W.plainGet_of hg).1 (PySem.W.plainGet_of hg).2 hf (beq_iff_eq.mp ht) (by show (PySem.W.lookIn name od).map (·.isSome) = some false; rw [hl, hv]; rfl) h
theorem set_map {ns : List Str} {Q : Unit → Shared → Prop} (X : K.In s.heap) (I : ObjM s.heap x dx C mA)
    (hs : PySem.W.findIn K (.ref C) "__setattr__" = some (some (.builtin "object.__setattr__"))) (hp : PySem.W.plainOver K C = true) (ht : PySem.W.takerIn K C name = some none) (hh : PySem.W.hasDictIn K C = true)
    (hw : PySem.Within mA ns) (hsz : ns.length ≤ sizeLine)
    (h : ∀ h', ObjM h' x dx C (fun y => if y = name then some v else mA y) → Heap.SameBut dx s.heap h' → Q () { s with heap := h', toks := s.toks + 2 }) :
    wpAny (model prog w) A (setAttr (.ref x) name v) Q E s := by
  obtain ⟨od, J, hl⟩ := I.look
  refine PySem.W.set_plain X J hs (PySem.W.osa_open (s := { s with toks := s.toks + 1 }) (r := none) X J hp ht fun b => ?_)
  obtain ⟨cd, hc, hd'⟩ := PySem.W.any_some hh
  have hx : s.heap.get? x = some ⟨.ref C, some dx, .plain, #[]⟩ := I.obj
  refine wpAny_bind (wpAny_pure (wpAny_bind (wpAny_bind (wpAny_loadPart hx (wpAny_bind (PySem.W.Looks.here (s := { s with toks := s.toks + 1 }) (PySem.W.looks_clsIn X hc) ?_))))))
  rw [hd']
  refine wpAny_pure (a := some dx) (wpAny_bind (wpAny_pure (wpAny_bind ?_)))
  refine wpAny_nsSet1 (s := { s with toks := s.toks + 1 }) I.ns fun h' hn2 hs2 => ?_
  obtain ⟨oD, esD, epD, hoD, hdD, hcD⟩ := hn2.count (PySem.Within.cons name v hw)
  refine wpAny_bind (wpAny_lookBehind hoD (by rw [hdD]; exact pastItsLine_dict (Nat.le_trans hcD (by rw [List.length_cons]; omega))) ?_)
  exact wpAny_pure (h _ ⟨(hs2.2 _ (Ne.symm I.ne)).trans I.obj, hn2, I.ne⟩ hs2)
theorem make_map {R : Result → Shared → Prop} {vs : List Value} {kw : List (Str × Value)} (X : K.In s.heap) (hm : PySem.W.makesIn K C = true)
    (hi : PySem.W.findIn K (.ref C) "__init__" = some (some (.ref f))) (hf : PySem.W.typeIn K (.ref f) = some (.type "function"))
    (h : codeAny (model prog w) (A.under (.builtin "type.__call__" ⟨.ref C :: vs, kw⟩)) (.call (.ref f) ⟨.ref (s.heap.objs.size + 1) :: vs, kw⟩) (PySem.W.InitBack (s.heap.objs.size + 1) R)
      { s with heap := (s.heap.push PySem.W.emptyDict).push (PySem.W.instObj C s.heap.objs.size) }) :
    codeAny (model prog w) A (.call (.ref C) ⟨vs, kw⟩) R s := by
  obtain ⟨hh, g, d, t, os⟩ := s
  exact PySem.W.make_core (PySem.W.makes_of X hm) (PySem.W.looks_findIn X hi) (fun self => PySem.W.bind_fn X self hf) (.inl rfl) h
end
def putF (f : Str) (v : V) : List (Str × V) → List (Str × V)
  | [] => [(f, v)]
  | (g, x) :: r => if g = f then (g, v) :: r else (g, x) :: putF f v r
theorem lookup_putF (f g : Str) (v : V) : ∀ fs : List (Str × V), (putF f v fs).lookup g = if g = f then some v else fs.lookup g
  | [] => by
    show List.lookup g [(f, v)] = _
    by_cases h : g = f
    · have hb : (g == f) = true := beq_iff_eq.mpr h
      simp only [List.lookup, hb, if_pos h]
    · have hb : (g == f) = false := beq_eq_false_iff_ne.mpr h
      simp only [List.lookup, hb, if_neg h]
  | (k, x) :: r => by
    have ih := lookup_putF f g v r
    rw [show putF f v ((k, x) :: r) = (if k = f then (k, v) :: r else (k, x) :: putF f v r) from rfl]
    by_cases hk : k = f
    · rw [if_pos hk]
      by_cases h : g = k
      · have hb : (g == k) = true := beq_iff_eq.mpr h
        simp only [List.lookup, hb, if_pos (h.trans hk)]
      · have hb : (g == k) = false := beq_eq_false_iff_ne.mpr h
        simp only [List.lookup, hb, if_neg (fun e : g = f => h (e.trans hk.symm))]
    · rw [if_neg hk]
      by_cases h : g = k
      · have hb : (g == k) = true := beq_iff_eq.mpr h
        simp only [List.lookup, hb, if_neg (fun e : g = f => hk (h.symm.trans e))]
      · have hb : (g == k) = false := beq_eq_false_iff_ne.mpr h
        simp only [List.lookup, hb]
        exact ih
theorem keys_putF (f : Str) (v : V) : ∀ fs : List (Str × V), f ∈ (putF f v fs).map (·.1) ∧ ∀ g, g ∈ fs.map (·.1) → g ∈ (putF f v fs).map (·.1)
  | [] => ⟨by simp [putF], fun g h => by simp at h⟩
  | (k, x) :: r => by
    obtain ⟨i1, i2⟩ := keys_putF f v r
    rw [show putF f v ((k, x) :: r) = (if k = f then (k, v) :: r else (k, x) :: putF f v r) from rfl]
    by_cases hk : k = f
    · rw [if_pos hk]
      subst hk
      exact ⟨by simp, fun g h => by simpa using h⟩
    · rw [if_neg hk]
      refine ⟨?_, fun g h => ?_⟩
      · rw [List.map_cons]
        exact List.mem_cons_of_mem _ i1
      · rw [List.map_cons] at h ⊢
        rcases List.mem_cons.mp h with e | e
        · exact List.mem_cons.mpr (.inl e)
        · exact List.mem_cons_of_mem _ (i2 g e)
theorem length_putF (f : Str) (v : V) : ∀ fs : List (Str × V), (putF f v fs).length ≤ fs.length + 1
  | [] => by simp [putF]
  | (k, x) :: r => by
    have ih := length_putF f v r
    rw [show putF f v ((k, x) :: r) = (if k = f then (k, v) :: r else (k, x) :: putF f v r) from rfl]
    by_cases hk : k = f
    · rw [if_pos hk, List.length_cons, List.length_cons]; omega
    · rw [if_neg hk, List.length_cons, List.length_cons]; omega
theorem RelO.some_of {v : V} {o : Option Value} (r : RelO (some v) o) : ∃ u, o = some u ∧ RelV v u := by
  cases o with
  | none => exact (show False from r).elim
  | some u => exact ⟨u, rfl, r⟩
theorem RelO.none_of {o : Option Value} (r : RelO none o) : o = none := by
  cases o with
  | none => rfl
  | some u => exact (show False from r).elim
theorem handed_of {v : V} {u : Value} (r : RelV v u) : PySem.W.handedIn u = true := by
  cases v with
  | non => cases (show u = Value.none from r); rfl
  | bl b => cases (show u = Value.bool b from r); rfl
  | int i => obtain ⟨t, e⟩ := (show ∃ t, u = Value.int i t from r); cases e; rfl
  | str x => obtain ⟨t, e⟩ := (show ∃ t, u = Value.str x t from r); cases e; rfl
  | byt b => obtain ⟨t, e⟩ := (show ∃ t, u = Value.bytes b t from r); cases e; rfl
  | flt b => obtain ⟨t, e⟩ := (show ∃ t, u = Value.float b t from r); cases e; rfl
  | ref a => cases (show u = Value.ref a from r); rfl
  | ty n => cases (show u = Value.type n from r); rfl
section
variable {P : Program} {w : World} {H H' : Hp} {h h' : Heap} {a C dx : Addr} {fs fs' : List (Str × V)}
theorem ins_get (hok : HOk P w H h) (e : H a = some (.ins C dx fs)) : ∃ mA, ObjM h a dx C mA ∧ (∀ f, RelO (fs.lookup f) (mA f)) ∧ PySem.Within mA (fs.map (·.1)) ∧ fs.length ≤ 1000 ∧ H dx = some (.own a) := by
  obtain ⟨d, z, ne, ob, mA, n, r, q⟩ := (show ObjOk P w H h a (.ins C dx fs) from hok a _ e)
  exact ⟨mA, ⟨ob, n, ne⟩, r, q, z, d⟩
end
structure Cls (K : PySem.W.Frag) (C : Addr) : Prop where
  pg : PySem.W.plainGet K C Str.empty = true
  hd : PySem.W.hasDictIn K C = true
  po : PySem.W.plainOver K C = true
  sa : PySem.W.findIn K (.ref C) "__setattr__" = some (some (.builtin "object.__setattr__"))
theorem Cls.get {K : PySem.W.Frag} {C : Addr} (c : Cls K C) (f : Str) : PySem.W.plainGet K C f = true := c.pg
def NoAttr (K : PySem.W.Frag) (C : Addr) (f : Str) : Prop := PySem.W.findIn K (.ref C) f = some none
theorem NoAttr.taker {K : PySem.W.Frag} {C : Addr} {f : Str} (n : NoAttr K C f) : PySem.W.takerIn K C f = some none := by
  unfold PySem.W.takerIn
  rw [show PySem.W.findIn K (.ref C) f = some none from n]
  rfl
structure Meth (K : PySem.W.Frag) (C : Addr) (m : Str) (f : Addr) : Prop where
  at_ : PySem.W.findIn K (.ref C) m = some (some (.ref f))
  fn : PySem.W.isFn K (.ref f) = true
  kp : PySem.W.keepIn K (.ref f) = true
section
variable {X : Cx} {pins : List (Addr × Obj)} {σ : St} {H : Hp} {s : Shared} {a C dx : Addr} {fs : List (Str × V)} {f : Str} {v : V} {A : Around} {E : Value → Shared → Prop}
theorem getattr_ok {b : Bool} {Q : Value → Shared → Prop} (I : Inv X pins σ H s) (e : H a = some (.ins C dx fs)) (c : Cls X.K C) (n : NoAttr X.K C f) (l : fs.lookup f = some v)
    (h : ∀ u s', Inv X pins σ H s' → RelV v u → Q u s') : wpAny (model X.prog X.w) A (getAttr (.ref a) f b) Q E s := by
  obtain ⟨mA, O, r, _, _, _⟩ := ins_get I.hok e
  obtain ⟨u, hu, ru⟩ := RelO.some_of (v := v) (o := mA f) (by rw [← l]; exact r f)
  exact get_map I.kIn O (c.get f) c.hd n hu (handed_of ru) (h u _ (I.tok _) ru)
theorem getmeth_ok {m : Str} {g : Addr} {pl : Sem Bool} {Q : Value × List Value → Shared → Prop} (I : Inv X pins σ H s) (e : H a = some (.ins C dx fs)) (c : Cls X.K C) (k : Meth X.K C m g) (l : fs.lookup m = none)
    (h : Q (.ref g, [.ref a]) s) : wpAny (model X.prog X.w) A (getMethod (.ref a) m pl) Q E s := by
  obtain ⟨mA, O, r, _, _, _⟩ := ins_get I.hok e
  have hn : mA m = none := RelO.none_of (by rw [← l]; exact r m)
  exact get_meth I.kIn O (c.get m) k.at_ k.fn hn h
theorem setattr_ok {y : V} {u : Value} {Q : Unit → Shared → Prop} (I : Inv X pins σ H s) (e : H a = some (.ins C dx fs)) (c : Cls X.K C) (n : NoAttr X.K C f) (hl : fs.length < 1000) (ry : RelV y u)
    (h : ∀ s', Inv X pins σ (upd H a (.ins C dx (putF f y fs))) s' → Q () s') : wpAny (model X.prog X.w) A (setAttr (.ref a) f u) Q E s := by
  obtain ⟨mA, O, r, wi, _, ho⟩ := ins_get I.hok e
  have hz : (fs.map (·.1)).length ≤ sizeLine := by rw [List.length_map, sizeLine_eq]; omega
  refine set_map I.kIn O c.sa c.po n.taker c.hd wi hz fun h' O' sb => h _ ?_
  have hd : ∃ o, h'.get? dx = some o := let ⟨o, _, _, e', _⟩ := O'.ns; ⟨o, e'⟩
  refine I.write (x := a) (e := dx) (by rw [e]; exact True.intro) (.inr ho) (fun b q hb z => (sb.2 b hb).trans z) hd ?_
  refine ⟨by rw [upd_ne O.ne]; exact ho, ?_, O.ne, O'.obj, _, O'.ns, fun g => ?_, fun g hg => ?_⟩
  · have := length_putF f y fs; omega
  · show RelO ((putF f y fs).lookup g) (if g = f then some u else mA g)
    rw [lookup_putF]
    by_cases q : g = f
    · rw [if_pos q, if_pos q]; exact ry
    · rw [if_neg q, if_neg q]; exact r g
  · by_cases q : g = f
    · rw [q]; exact (keys_putF f y fs).1
    · refine (keys_putF f y fs).2 g (wi g fun z => hg ?_)
      show (if g = f then some u else mA g) = none
      rw [if_neg q]; exact z
theorem Inv.made (I : Inv X pins σ H s) : Inv X pins σ (upd (upd H s.heap.objs.size (.own (s.heap.objs.size + 1))) (s.heap.objs.size + 1) (.ins C s.heap.objs.size []))
    { s with heap := (s.heap.push PySem.W.emptyDict).push (PySem.W.instObj C s.heap.objs.size) } := by
  have e1 : (s.heap.push PySem.W.emptyDict).get? s.heap.objs.size = some PySem.W.emptyDict := Heap.get?_push_size s.heap rfl
  have e2 : ((s.heap.push PySem.W.emptyDict).push (PySem.W.instObj C s.heap.objs.size)).get? (s.heap.objs.size + 1) = some (PySem.W.instObj C s.heap.objs.size) := by
    have := Heap.get?_push_size (s.heap.push PySem.W.emptyDict) (o := PySem.W.instObj C s.heap.objs.size) rfl
    rwa [Heap.size_push] at this
  have e3 : (s.heap.push PySem.W.emptyDict).Ns s.heap.objs.size (fun _ => none) := ⟨PySem.W.emptyDict, #[], _, e1, rfl, (fun e he => absurd he (by simp)), fun _ => rfl⟩
  have I1 := I.laid (a := s.heap.objs.size) (o := .own (s.heap.objs.size + 1)) (h' := s.heap.push PySem.W.emptyDict) (t' := s.toks) (fun b u q => Heap.get?_push_of_some _ q) (Nat.le_refl _) ⟨_, e1⟩
  refine I1.laid (a := s.heap.objs.size + 1) (o := .ins C s.heap.objs.size []) (t' := s.toks) (fun b u q => Heap.get?_push_of_some _ q) (Nat.le_of_eq (Heap.size_push _ _)) ?_
  have ne : s.heap.objs.size ≠ s.heap.objs.size + 1 := Nat.ne_of_lt (Nat.lt_succ_self _)
  refine ⟨by rw [upd_ne ne, upd_same], Nat.zero_le _, ne, e2, fun _ => none, (Heap.Ns1.of_empty e3).at fun o q => Heap.get?_push_of_some _ q, fun _ => True.intro, fun y hy => absurd rfl hy⟩
theorem attr_of {prog : Program} {w : World} {env : Env} {e : Expr} {f : Str} {pos : Pos} {s : Shared} {Q : Value → Shared → Prop} (hb : attributeBase e f env (eval e env) = eval e env)
    (h : wpAny (model prog w) A (eval e env) (fun o s₁ => wpAny (model prog w) A (getAttr o f true) Q E s₁) E s) : wpAny (model prog w) A (eval (.Attribute e f pos) env) Q E s :=
  Attribute_any_ h (by rw [arm_eval_Attribute, hb])
end
def tFld (K : PySem.W.Frag) (ta : TE) (f : Str) : TE := fun σ H Q => ta σ H fun x H1 => ∃ a C dx fs v, x = .ref a ∧ H1 a = some (.ins C dx fs) ∧ Cls K C ∧ NoAttr K C f ∧ fs.lookup f = some v ∧ Q v H1
def sFld (K : PySem.W.Frag) (ta tv : TE) (f : Str) : TS := fun D σ H => tv σ H fun y H1 => ta σ H1 fun x H2 => ∃ a C dx fs, x = .ref a ∧ H2 a = some (.ins C dx fs) ∧ Cls K C ∧ NoAttr K C f ∧ fs.length < 1000 ∧
  D.nx σ (upd H2 a (.ins C dx (putF f y fs)))
section
variable {X : Cx} {o e value : Expr} {f : Str} {pos pos' tpos : Pos} {ta tv : TE}
theorem pe_fld (he : PE X e ta) (hb : attributeBase e f X.env (eval e X.env) = eval e X.env) : PE X (.Attribute e f pos) (tFld X.K ta f) := by
  intro pins s σ H Q I h
  refine attr_of hb (thn (he pins s σ H _ I h) fun u s1 ⟨x, H1, I1, rx, a, C, dx, fs, v, ex, ea, c, n, l, q⟩ => ?_)
  subst ex
  obtain rfl : u = Value.ref a := rx
  exact getattr_ok I1 ea c n l fun u' s2 I2 ru => ⟨v, H1, I2, ru, q⟩
theorem ps_fld (ha : PE X o ta) (hv : PE X value tv) (hs : swapsWith value (some (.Attribute o f pos')) pos.line X.env = pure false) : PS X (.Assign [.Attribute o f pos'] value pos) (sFld X.K ta tv f) := by
  intro pins s σ H D I h
  refine plainObj_wpAny_Assign_Attribute (thn (hv pins s σ H _ I h) fun u s1 ⟨y, H1, I1, ry, q⟩ => thn (ha pins s1 σ H1 _ I1 q) fun ov s2 ⟨x, H2, I2, rx, a, C, dx, fs, ex, ea, c, n, l, q2⟩ => ?_) hs
  subst ex
  obtain rfl : ov = Value.ref a := rx
  exact setattr_ok I2 ea c n l ry fun s3 I3 => ⟨σ, _, I3, q2⟩
end
section
variable {X : Cx} {pins : List (Addr × Obj)} {σ : St} {H : Hp} {s : Shared} {A : Around} {E : Value → Shared → Prop} {Q : Value → Shared → Prop} {c : Value} {b : Bool}
inductive TyOf (K : PySem.W.Frag) (H : Hp) : V → Value → Prop where
  | non : TyOf K H .non (.type "NoneType")
  | bl (x : Bool) : TyOf K H (.bl x) (.type "bool")
  | int (i : Int) : TyOf K H (.int i) (.type "int")
  | str (x : Str) : TyOf K H (.str x) (.type "str")
  | flt (x : UInt64) : TyOf K H (.flt x) (.type "float")
  | lst {a : Addr} {xs : List V} (e : H a = some (.lst xs)) : TyOf K H (.ref a) (.type "list")
  | frz {a : Addr} {o : Obj} {xs : List V} (e : H a = some (.frz o (.lst xs))) : TyOf K H (.ref a) (.type "list")
  | tup {a : Addr} {xs : List V} (e : H a = some (.tup xs)) : TyOf K H (.ref a) (.type "tuple")
  | dK {a : Addr} {kvs : List (Key × V)} (e : H a = some (.dK kvs)) : TyOf K H (.ref a) (.type "dict")
  | dT {a : Addr} {kvs : List (List Key × V)} (e : H a = some (.dT kvs)) : TyOf K H (.ref a) (.type "dict")
  | ins {a C dx : Addr} {fs : List (Str × V)} (e : H a = some (.ins C dx fs)) (cl : Cls K C) (ha : PySem.W.findIn K (.ref C) "__class__" = some (some (.builtin "object.__class__")))
      (hn : PySem.W.specialIn K (.builtin "object.__class__") "__get__" = some (some (.builtin "getset_descriptor.__get__"))) (htk : PySem.W.takesIn K (.builtin "object.__class__") = some true)
      (hm : PySem.W.mroIn K C (.type "object") = some true) : TyOf K H (.ref a) (.ref C)
end
end L2
namespace L2
open PySem PySem.Spec PyProof.Rows
structure Room (k : Nat) (A : Around) : Prop where
  hd : A.handled = none
  dp : A.depth + 3 * k + 5 < recursionLimit
  un : A.units + 16 * k + 200 < cLine
theorem Room.mono {j k : Nat} {A : Around} (r : Room k A) (h : j ≤ k) : Room j A := ⟨r.hd, by have := r.dp; omega, by have := r.un; omega⟩
theorem Room.deeper {k : Nat} {A : Around} (r : Room (k + 1) A) (env : Env) : Room k (A.deeper env) :=
  ⟨r.hd, by have := r.dp; show A.depth + 1 + 3 * k + 5 < _; omega, by have := r.un; show A.units + 3 + 16 * k + 200 < _; omega⟩
theorem make_depth {A : Around} {C : Addr} {us : List Value} {kw : List (Str × Value)} : (A.under (.builtin "type.__call__" ⟨.ref C :: us, kw⟩)).depth = A.depth + 1 := by
  first | rfl | simp [Around.under, Code.weight, Code.isCreation, Code.isGuard, Code.isCaller, Code.frames, Code.isFrame, guardIds]
theorem make_units {A : Around} {C : Addr} {us : List Value} {kw : List (Str × Value)} : (A.under (.builtin "type.__call__" ⟨.ref C :: us, kw⟩)).units = A.units + 1 := by
  first | rfl | simp [Around.under, Code.cUnits, Code.frames, Code.isFrame]
theorem Room.make {k : Nat} {A : Around} (r : Room (k + 1) A) (C : Addr) (us : List Value) (kw : List (Str × Value)) : Room k (A.under (.builtin "type.__call__" ⟨.ref C :: us, kw⟩)) :=
  ⟨r.hd, by have := r.dp; rw [make_depth]; omega, by have := r.un; rw [make_units]; omega⟩
theorem Room.depth {k : Nat} {A : Around} (r : Room k A) : A.depth < recursionLimit := by have := r.dp; omega
theorem Room.units {k : Nat} {A : Around} (r : Room k A) : A.units + 64 < cLine := by have := r.un; omega
def tNil : TA := fun _ H Q => Q [] H
def tCons (ta : TE) (tr : TA) : TA := fun σ H Q => ta σ H fun x H1 => tr σ H1 fun xs H2 => Q (x :: xs) H2
section
variable {X : Cx} {e : Expr} {es : List Expr} {te : TE} {t : TA} {pos : Pos}
theorem pa_nil : PA X [] tNil := fun _ _ _ _ H Q I h => Calls.spliced_nil ⟨[], H, I, .nil, h⟩
theorem pa_cons (ha : PE X e te) (hr : PA X es t) (hs : starEach (e :: es) X.env = (false, eval e X.env) :: starEach es X.env := by rfl) : PA X (e :: es) (tCons te t) := by
  intro pos pins s σ H Q I h
  rw [hs]
  show wpAny _ _ (spliced ((false, eval e X.env) :: backTo pos (starEach es X.env))) _ _ s
  refine Calls.spliced_cons (thn (ha pins s σ H _ I h) fun u s1 ⟨x, H1, I1, r1, q1⟩ => ?_)
  exact thn (hr pos pins s1 σ H1 _ I1 q1) fun us s2 ⟨xs, H2, I2, r2, q2⟩ => ⟨x :: xs, H2, I2, .cons r1 r2, q2⟩
def tTup (t : TA) : TE := fun σ H Q => t σ H fun xs H1 => xs.length ≤ sizeLine ∧ ∀ p, H1 p = none → Q (.ref p) (upd H1 p (.tup xs))
def tLst (t : TA) : TE := fun σ H Q => t σ H fun xs H1 => xs.length ≤ sizeLine ∧ ∀ p, H1 p = none → Q (.ref p) (upd H1 p (.lst xs))
theorem pe_tup {x1} (h : PA X es t) : PE X (.Tuple es x1 pos) (tTup t) := by
  intro pins s σ H Q I hq
  refine wpAny_Tuple_spliced (thn (h pos pins s σ H _ I hq) fun us s1 ⟨xs, H1, I1, r, z, q⟩ => ⟨by rw [← r.length]; exact z, ?_⟩)
  have hf : H1 s1.heap.objs.size = none := I1.hok.fresh (Nat.le_refl _)
  refine ⟨.ref s1.heap.objs.size, upd H1 s1.heap.objs.size (.tup xs), I1.laid (t' := s1.toks) (fun b u e => Heap.get?_push_of_some _ e) (Nat.le_refl _) ?_, rfl, q _ hf⟩
  exact ⟨z, us, r, ⟨_, Heap.get?_push_size _ rfl, rfl, _, rfl⟩⟩
theorem pe_lst (h : PA X es t) : PE X (.List es pos) (tLst t) := by
  intro pins s σ H Q I hq
  refine wpAny_List_spliced (thn (h pos pins s σ H _ I hq) fun us s1 ⟨xs, H1, I1, r, z, q⟩ => ⟨by rw [← r.length]; exact z, ?_⟩)
  have hf : H1 s1.heap.objs.size = none := I1.hok.fresh (Nat.le_refl _)
  refine ⟨.ref s1.heap.objs.size, upd H1 s1.heap.objs.size (.lst xs), I1.laid (t' := s1.toks) (fun b u e => Heap.get?_push_of_some _ e) (Nat.le_refl _) ?_, rfl, q _ hf⟩
  exact ⟨z, us, 0, r, Heap.get?_push_size _ rfl⟩
end
abbrev Sp := List V → Hp → VK → XK → Prop
abbrev CXT := List Env → Hp → Shared → XK → Value → Shared → Prop
structure Env0 (P : Program) (w : World) (K : PySem.W.Frag) (mg : Str → Option Value) (base : Heap) (A : Around) (outer : List Env) (s : Shared) (H : Hp) : Prop where
  frames : A.frames = some outer
  mod : Mod K mg base
  bs : ∀ b o, base.get? b = some o → s.heap.get? b = some o ∧ H b = none
  bsz : base.objs.size ≤ s.heap.objs.size
  funs : s.heap.FunFrames base outer
  frf : ∀ b ∈ frs outer, H b = none
  hok : HOk P w H s.heap
  bare : AllBare s.gens
def CE (outer : List Env) (P : Program) (w : World) (H : Hp) (s : Shared) (Q : VK) (u : Value) (s' : Shared) : Prop :=
  ∃ v H', s'.os = s.os ∧ AllBare s'.gens ∧ Un (frs outer) [] H H' s.heap s'.heap ∧ HOk P w H' s'.heap ∧ RelV v u ∧ Q v H'
def CR (CX : CXT) (outer : List Env) (P : Program) (w : World) (H : Hp) (s : Shared) (Q : VK) (E : XK) (r : Result) (s' : Shared) : Prop :=
  match r with
  | .ok (.ret u) => CE outer P w H s Q u s'
  | .ok _ => False
  | .error e => CX outer H s E e s'
structure FnOk (P : Program) (w : World) (K : PySem.W.Frag) (mg : Str → Option Value) (base : Heap) (CX : CXT) (k : Nat) (f : Addr) (fd : FuncData) (ps : List Str) (sp : Sp) : Prop where
  len : ∀ vs H Q E, sp vs H Q E → vs.length = ps.length
  run : ∀ (A : Around) (outer : List Env) (s : Shared) (H : Hp) (args : Args) (us : List Value) (vs : List V) (Q : VK) (E : XK), Room k A → Env0 P w K mg base A outer s H → BindsTo s fd args (ps.zip us) → Vals vs us → sp vs H Q E →
    codeAny (model P w) A (.call (.ref f) args) (CR CX outer P w H s Q E) s
theorem Env0.make {P : Program} {w : World} {K : PySem.W.Frag} {mg : Str → Option Value} {base : Heap} {A : Around} {outer : List Env} {s : Shared} {H : Hp} (e : Env0 P w K mg base A outer s H) (C : Addr) (us : List Value) (kw : List (Str × Value)) :
    Env0 P w K mg base (A.under (.builtin "type.__call__" ⟨.ref C :: us, kw⟩)) outer s H := ⟨by first | exact e.frames | (simpa [Around.under, Code.envs, Code.isFrame, pushEnvs] using e.frames), e.mod, e.bs, e.bsz, e.funs, e.frf, e.hok, e.bare⟩
section
variable {X : Cx} {pins : List (Addr × Obj)} {σ : St} {H : Hp} {s s' : Shared}
theorem Inv.env0 (I : Inv X pins σ H s) : Env0 X.prog X.w X.K X.mg X.base X.A X.stack s H :=
  ⟨I.ok.frames, I.ok.mod, I.bs, Nat.le_trans I.ok.bsz I.sz, I.stack, I.stkFree, I.hok, I.bare⟩
theorem Inv.after {Q : VK} {u : Value} (I : Inv X pins σ H s) (h : CE X.stack X.prog X.w H s Q u s') : EP X pins σ Q u s' := by
  obtain ⟨v, H', os, bare, un, hok, r, q⟩ := h
  obtain ⟨hh, g, d, t, os'⟩ := s'
  obtain rfl : os' = s.os := os
  exact ⟨v, H', I.call (h' := hh) (g' := g) (d' := d) (t' := t) (ch := []) un hok bare (fun b z => absurd z (by simp)), r, q⟩
end
def Binds (K : PySem.W.Frag) (fd : FuncData) (ps : List Str) (ds : List Value) : Prop :=
  ∀ (s : Shared) (us : List Value), K.In s.heap → (us ++ ds).length = ps.length → BindsTo s fd ⟨us, []⟩ (ps.zip (us ++ ds))
theorem Binds.all {K : PySem.W.Frag} {fd : FuncData} {ps : List Str} (h : ∀ us : List Value, us.length = ps.length → bindArgs fd ⟨us, []⟩ = pure (ps.zip us)) : Binds K fd ps [] := fun s us _ hl => by
  rw [List.append_nil] at hl ⊢
  exact .of_eq (h us hl)
section
variable {X : Cx} {CX : CXT} {k : Nat} {f C : Addr} {fd : FuncData} {ps : List Str} {sp : Sp} {dvs : List V} {ds : List Value} {E : XK} {x m : Str} {p pos apos : Pos} {e o : Expr} {es : List Expr} {ta : TE} {t : TA}
structure Mk (K : PySem.W.Frag) (C f : Addr) : Prop where
  makes : PySem.W.makesIn K C = true
  init : PySem.W.findIn K (.ref C) "__init__" = some (some (.ref f))
  fn : PySem.W.isFn K (.ref f) = true
  kp : PySem.W.keepIn K (.ref C) = true
end
section
variable {X : Cx} {CX : CXT} {k : Nat} {f C : Addr} {fd : FuncData} {ps ks : List Str} {sp : Sp} {E : XK} {x m : Str} {p pos apos kpos : Pos} {e o : Expr} {es : List Expr} {kws : List Keyword} {te ta : TE} {t tk : TA} {nm : Option Str}
variable {g : List Value → List Value → List Value} {gV : List V → List V → List V}
end
structure FnScope (N P : List Str) (sc : Scope) : Prop where
  kind : sc.kind = .function
  co : sc.isCoroutine = false
  gen : sc.isGenerator = false
  nd : N.Nodup
  pre : N.take P.length = P
  par : ∀ x ∈ P, sc.names.lookup x = some .local ∨ sc.names.lookup x = some .cell
  nofree : ∀ y ∈ sc.names, y.2 ≠ .free
theorem bindL_out {kindOf : Str → Option NameKind} {x : Str} : ∀ {binds : List (Str × Value)} {m : Str → Option Value}, (∀ v, (x, v) ∉ binds) → bindL kindOf binds m x = m x
  | [], _, _ => rfl
  | (n, v) :: r, m, h => by
    unfold bindL
    rw [bindL_out fun w hw => h w (List.mem_cons_of_mem _ hw)]
    split
    · have : x ≠ n := by rintro rfl; exact h v List.mem_cons_self
      simp [this]
    · rfl
theorem bindC_out {kindOf : Str → Option NameKind} {x : Str} : ∀ {binds : List (Str × Value)} {m : Str → Option Value}, (∀ v, (x, v) ∉ binds) → bindC kindOf binds m x = m x
  | [], _, _ => rfl
  | (n, v) :: r, m, h => by
    unfold bindC
    rw [bindC_out fun w hw => h w (List.mem_cons_of_mem _ hw)]
    split
    · rfl
    · have : x ≠ n := by rintro rfl; exact h v List.mem_cons_self
      simp [this]
theorem bindL_get {kindOf : Str → Option NameKind} {x : Str} {v : Value} : ∀ {P : List Str} {vs : List Value} {i : Nat} {m : Str → Option Value}, P.Nodup → P[i]? = some x → vs[i]? = some v → kindOf x = some .local →
    bindL kindOf (P.zip vs) m x = some v
  | [], _, _, _, _, h, _, _ => by simp at h
  | _ :: _, [], _, _, _, _, h, _ => by simp at h
  | p :: P, w :: vs, 0, m, nd, h1, h2, hk => by
    simp at h1 h2; subst h1; subst h2
    show bindL kindOf ((p, w) :: P.zip vs) m p = _
    unfold bindL
    rw [bindL_out fun v hv => (List.nodup_cons.mp nd).1 (List.of_mem_zip hv).1, if_pos hk]
    simp
  | p :: P, w :: vs, i + 1, m, nd, h1, h2, hk => by
    show bindL kindOf ((p, w) :: P.zip vs) m x = _
    unfold bindL
    exact bindL_get (i := i) (List.nodup_cons.mp nd).2 (by simpa using h1) (by simpa using h2) hk
theorem bindC_get {kindOf : Str → Option NameKind} {x : Str} {v : Value} : ∀ {P : List Str} {vs : List Value} {i : Nat} {m : Str → Option Value}, P.Nodup → P[i]? = some x → vs[i]? = some v → kindOf x ≠ some .local →
    bindC kindOf (P.zip vs) m x = some v
  | [], _, _, _, _, h, _, _ => by simp at h
  | _ :: _, [], _, _, _, _, h, _ => by simp at h
  | p :: P, w :: vs, 0, m, nd, h1, h2, hk => by
    simp at h1 h2; subst h1; subst h2
    show bindC kindOf ((p, w) :: P.zip vs) m p = _
    unfold bindC
    rw [bindC_out fun v hv => (List.nodup_cons.mp nd).1 (List.of_mem_zip hv).1, if_neg hk]
    simp
  | p :: P, w :: vs, i + 1, m, nd, h1, h2, hk => by
    show bindC kindOf ((p, w) :: P.zip vs) m x = _
    unfold bindC
    exact bindC_get (i := i) (List.nodup_cons.mp nd).2 (by simpa using h1) (by simpa using h2) hk
def start (N : List Str) (vs : List V) : St := vs.map some ++ List.replicate (N.length - vs.length) none
def cxOf (CX : CXT) (P : Program) (w : World) (K : PySem.W.Frag) (mg : Str → Option Value) (base : Heap) (N : List Str) (qual : Str) (scope : Scope) (f : Addr) (cd : Value) (A : Around) (outer : List Env) (s : Shared) (H : Hp) (E : XK) : Cx where
  prog := P
  w := w
  K := K
  mg := mg
  base := base
  A := A.deeper (envOfC qual scope s.heap.objs.size f cd)
  N := N
  s₀ := s
  H₀ := H
  env := envOfC qual scope s.heap.objs.size f cd
  outer := outer
  stack := envOfC qual scope s.heap.objs.size f cd :: outer
  ex := []
  calm := true
  fn := fun _ => true
  pn := []
  xe := fun e s' => wpAny (model P w) (A.deeper (envOfC qual scope s.heap.objs.size f cd)) (leaving (envOfC qual scope s.heap.objs.size f cd) e) (fun _ s'' => CX outer H s E e s'') (fun e' s'' => CX outer H s E e' s'') s'
theorem cell_has {sc : Scope} {n : Nat} {x : Str} (h : sc.names.lookup x = some .cell) : ∃ c, (cellsFrom n sc.names []).lookup x = some c := by
  have q := PySem.W.cellsFrom_some sc.names n [] (.inl h)
  exact Option.isSome_iff_exists.mp q
theorem inv_start {CX : CXT} {P : Program} {w : World} {K : PySem.W.Frag} {mg : Str → Option Value} {base : Heap} {N ps : List Str} {qual : Str} {scope : Scope} {f : Addr} {cd : Value} {A : Around} {outer : List Env} {s s1 : Shared} {H : Hp} {E : XK} {us : List Value} {vs : List V}
    (S : FnScope N ps scope) (hd : A.handled = none) (e0 : Env0 P w K mg base A outer s H) (hl : vs.length = ps.length) (r : Vals vs us)
    (x : InCallC s s.heap.objs.size (bindL (envOfC qual scope s.heap.objs.size f cd).kindOf (ps.zip us) fun _ => none) (cellsFrom (s.heap.objs.size + 1) scope.names []) (bindC (envOfC qual scope s.heap.objs.size f cd).kindOf (ps.zip us) fun _ => none) s1) :
    Inv (cxOf CX P w K mg base N qual scope f cd A outer s H E) [] (start N vs) H s1 := by
  have hpl : ps.length ≤ N.length := by have := congrArg List.length S.pre; rw [List.length_take] at this; omega
  obtain ⟨h1, tk, rfl, hk⟩ := x.done
  have noA : ∀ b : Addr, b ∉ (cxOf CX P w K mg base N qual scope f cd A outer s H E).ex := fun b z => absurd (show b ∈ ([] : List Addr) from z) (by simp)
  refine ⟨⟨e0.mod, S.kind, rfl, rfl, Nat.le_refl _, fun y z c h1 h2 => ?_, fun y hy => ?_, fun y c _ h => ?_, fun _ => hd, Around.frames_deeper e0.frames, .inr ⟨rfl, rfl⟩, fun b z => absurd z (noA b), e0.bs, e0.bsz, fun b _ _ => noA b, fun b z => absurd z (noA b), e0.funs, e0.frf⟩,
    rfl, e0.bare, Un.kept hk, ⟨_, x.toInCall.ns, fun i y v h1 h2 h3 => ?_⟩, fun y c h => ⟨_, x.cell y c h⟩, e0.hok.fresh (Nat.le_refl _), fun y c h => ?_, fun p hp => absurd (show p ∈ ([] : List (Addr × Obj)) from hp) (by simp), e0.hok.kept hk, ?_⟩
  · exact name_of_addr x.apart (PySem.mem_of_lookup h1) (PySem.mem_of_lookup h2)
  · have hy : scope.names.lookup y = some .cell ∨ scope.names.lookup y = some .free := hy
    rcases hy with hy | hy
    · exact cell_has hy
    · exact absurd rfl (S.nofree _ (PySem.mem_of_lookup hy))
  · exact Nat.le_of_lt (x.above y c (PySem.mem_of_lookup h))
  · have hi : i < vs.length := by
      unfold start at h2
      by_cases hi : i < vs.length
      · exact hi
      · rw [List.getElem?_append_right (by simpa using hi)] at h2
        rw [List.getElem?_replicate] at h2
        split at h2 <;> cases h2
    have ha : vs[i]? = some v := by
      unfold start at h2
      rw [List.getElem?_append_left (by simpa using hi), List.getElem?_map] at h2
      cases e : vs[i]? with
      | none => rw [e] at h2; cases h2
      | some a => rw [e] at h2; cases h2; rfl
    obtain ⟨u, hu, rv⟩ := r.get ha
    have hp : ps[i]? = some y := by
      rw [← S.pre, List.getElem?_take_of_lt (by omega)]; exact h1
    have ndP : ps.Nodup := by rw [← S.pre]; exact S.nd.sublist (List.take_sublist _ _)
    refine ⟨u, rv, ?_⟩
    rcases S.par y (List.mem_of_getElem? hp) with k | k
    · exact .inl ⟨k, bindL_get ndP hp hu k⟩
    · obtain ⟨c, e⟩ := cell_has (n := s.heap.objs.size + 1) k
      refine .inr ⟨.inl k, c, e, ?_⟩
      have q := x.cell y c e
      rw [bindC_get ndP hp hu (by show scope.names.lookup y ≠ _; rw [k]; decide)] at q
      exact q
  · exact e0.hok.fresh (Nat.le_of_lt (x.above y c (PySem.mem_of_lookup h)))
  · unfold start
    show _ = N.length
    rw [List.length_append, List.length_map, List.length_replicate]
    omega
theorem fn_of {CX : CXT} {P : Program} {w : World} {K : PySem.W.Frag} {mg : Str → Option Value} {base : Heap} {k : Nat} {f : Addr} {name qual : Str} {params : Arguments} {body : List Stmt} {scope : Scope} {dV kV doc pm cdv ct oc : Value} {an od : Option Addr}
    {osl : Array (Option Value)} {N ps : List Str} {sp : Sp} (lk : K.lookup f = some ⟨oc, od, .func (PySem.W.fnOf name qual params body scope dV kV doc pm an cdv ct), osl⟩) (hcd : PySem.W.codeIn K cdv qual = true) (S : FnScope N ps scope)
    (len : ∀ vs H Q E, sp vs H Q E → vs.length = ps.length)
    (hbody : ∀ (A : Around) (outer : List Env) (s : Shared) (H : Hp) (vs : List V) (Q : VK) (E : XK), Room k (A.deeper (envOfC qual scope s.heap.objs.size f cdv)) → sp vs H Q E →
      ∃ t, PSs (cxOf CX P w K mg base N qual scope f cdv A outer s H E) body t ∧ t { nx := fun _ H' => Q .non H', rt := Q } (start N vs) H) :
    FnOk P w K mg base CX (k + 1) f (PySem.W.fnOf name qual params body scope dV kV doc pm an cdv ct) ps sp := by
  refine ⟨len, fun A outer s H args us vs Q E hr e0 hb r hsp => ?_⟩
  have hl := len _ _ _ _ hsp
  have KX : K.In s.heap := e0.mod.kin.keeps fun b o e => (e0.bs b o e).1
  have lim : s.heap.NoLimit := e0.mod.nolimit.keeps fun b o e => (e0.bs b o e).1
  have hkind : ∀ y ∈ ps.zip us, scope.names.lookup y.1 = some .local ∨ (scope.names.lookup y.1 = some .cell ∧ ((cellsFrom (s.heap.objs.size + 1) scope.names []).lookup y.1).isSome = true) := fun ⟨n, v⟩ hy => by
    rcases S.par n (List.of_mem_zip hy).1 with q | q
    · exact .inl q
    · exact .inr ⟨q, PySem.W.cellsFrom_some _ _ _ (.inl q)⟩
  refine codeAny_call_function hr.depth (KX _ _ lk) rfl S.co S.gen rfl (PySem.W.codeRec_of KX hcd) (hb _ _ _ _ ?_)
  refine wpAny_newFunctionEnv_cells S.kind hkind fun env he s1 x => ?_
  subst he
  refine ⟨lim.keeps x.toInCall.keep, codeAny_func ?_⟩
  obtain ⟨t, ht, hq⟩ := hbody A outer s H vs Q E (hr.deeper _) hsp
  have I : Inv (cxOf CX P w K mg base N qual scope f cdv A outer s H E) [] (start N vs) H s1 := inv_start S hr.hd e0 hl r x
  refine wpAny_mono (ht [] s1 (start N vs) H _ I hq) (fun fl s' hs => ?_) fun e s' hs => hs
  have fin : ∀ {σ' : St} {H' : Hp} {v : V} {u : Value}, Inv (cxOf CX P w K mg base N qual scope f cdv A outer s H E) [] σ' H' s' → RelV v u → Q v H' → CE outer P w H s Q u s' :=
    fun {σ' H' v u} J rv q => ⟨v, H', J.os, J.bare, J.base, J.hok, rv, q⟩
  cases fl with
  | ret u =>
    obtain ⟨v, σ', H', J, rv, q⟩ := hs
    exact fin J rv q
  | next =>
    obtain ⟨σ', H', J, q⟩ := hs
    exact fin (v := V.non) (u := Value.none) J rfl q
  | brk =>
    obtain ⟨_, _, _, q⟩ := hs
    exact False.elim q
  | cont =>
    obtain ⟨_, _, _, q⟩ := hs
    exact False.elim q
end L2
namespace L2
open PySem PySem.Spec PyProof.Rows
section
variable {X : Cx} {x : Str} {p pos : Pos} {e : Expr} {es : List Expr} {t : TA} {id T : String} {r : List V → Hp → VK → Prop}
def tCB (r : List V → Hp → VK → Prop) (t : TA) : TE := fun σ H Q => t σ H fun vs H1 => r vs H1 Q
theorem pe_callB (hc : CallR X (.builtin id) r) (hg : Gl X x) (hm : X.mg x = none) (hv : bootBuiltins x = some (.builtin id)) (ha : PA X (e :: es) t) (hn : x ≠ "__name__" := by decide) (hdb : (x == ("__debug__" : Str)) = false := by decide)
    (he : starEach (e :: es) X.env = (false, eval e X.env) :: starEach es X.env := by rfl) (hpl : (backTo pos (starEach es X.env)).any (·.1) = false := by rfl) : PE X (.Call (.Name x p) (e :: es) [] pos) (tCB r t) := by
  intro pins s σ H Q I h
  refine wpAny_Call_Name_kw (ld_blt I hg hm hv ?_ hn hdb)
  exact PyProof.Rows.callWith_builtin1 (thn (ha pos pins s σ H _ I h) fun us s1 ⟨vs, H1, I1, r1, q1⟩ => hc pins s1 σ H1 vs us Q I1 r1 q1) he hpl
theorem pe_callTy (hc : CallR X (.type T) r) (hg : Gl X x) (hm : X.mg x = none) (hv : bootBuiltins x = some (.type T)) (ha : PA X (e :: es) t) (hn : x ≠ "__name__" := by decide) (hdb : (x == ("__debug__" : Str)) = false := by decide)
    (he : starEach (e :: es) X.env = (false, eval e X.env) :: starEach es X.env := by rfl) (hpl : (backTo pos (starEach es X.env)).any (·.1) = false := by rfl) : PE X (.Call (.Name x p) (e :: es) [] pos) (tCB r t) := by
  intro pins s σ H Q I h
  refine wpAny_Call_Name_kw (ld_blt I hg hm hv ?_ hn hdb)
  exact PyProof.Rows.callWith_type1 (thn (ha pos pins s σ H _ I h) fun us s1 ⟨vs, H1, I1, r1, q1⟩ => hc pins s1 σ H1 vs us Q I1 r1 q1) he hpl
end
end L2
namespace HT
open PySem PyProof.Rows
section
open PySem.SeqAt
open PySem.AutoSeq1 (wpAny_loadPart')
open PySem.MeetsSeq PySem.MeetsSeq2 PySem.MeetsSeq3
end
section
variable {prog : Program} {w : World} {A : Around} {E : Value → Shared → Prop} {s : Shared}
def sIx (n d : Nat) : Option Int → Nat
  | none => d
  | some v => if v < 0 then (v + (n : Int)).toNat else min v.toNat n
end
end HT
namespace L2
open PySem PySem.Spec PyProof.Rows
abbrev TO := St → Hp → (Option Int → Hp → Prop) → Prop
def PO (X : Cx) (e : Option Expr) (t : TO) : Prop :=
  ∀ (pins : List (Addr × Obj)) (s : Shared) (σ : St) (H : Hp) (Q : Option Int → Hp → Prop), Inv X pins σ H s → t σ H Q →
    wpAny (model X.prog X.w) X.A (evalPart e X.env) (fun u s' => ∃ o H', Inv X pins σ H' s' ∧ IsPart u o ∧ Q o H') X.xe s
def tNoPart : TO := fun _ H Q => Q none H
def tPart (t : TE) : TO := fun σ H Q => t σ H fun x H1 => ∃ i, x = .int i ∧ Q (some i) H1
section
variable {X : Cx} {e : Expr} {te : TE} {lo hi : Option Expr} {tl th : TO} {pos p2 : Pos}
theorem po_none : PO X none tNoPart := by
  intro pins s σ H Q I h
  rw [evalPart_none]
  exact wpAny_pure ⟨none, H, I, .none, h⟩
theorem po_some (h : PE X e te) : PO X (some e) (tPart te) := by
  intro pins s σ H Q I hw
  rw [evalPart_some]
  refine thn (h pins s σ H _ I hw) fun u s1 ⟨x, H1, I1, r1, q1⟩ => ?_
  obtain ⟨i, rfl, q⟩ := q1
  obtain ⟨t, rfl⟩ := r1
  exact ⟨some i, H1, I1, .int i t, q⟩
def SlR (X : Cx) (r : V → Option Int → Option Int → Hp → VK → Prop) : Prop :=
  ∀ (pins : List (Addr × Obj)) (s : Shared) (σ : St) (H : Hp) (x : V) (v vl vu : Value) (lo hi : Option Int) (sl : Addr) (Q : VK), Inv X pins σ H s → RelV x v → s.heap.IsSliceOf sl vl vu .none → IsPart vl lo → IsPart vu hi → r x lo hi H Q →
    ∃ T id, typeLookup (.type T) "__getitem__" = pure (some (.builtin id)) ∧ s.TypeIs v T ∧ wpAny (model X.prog X.w) X.A (getItem v (.ref sl)) (EP X pins σ Q) X.xe s
def tSl (r : V → Option Int → Option Int → Hp → VK → Prop) (te : TE) (tl th : TO) : TE := fun σ H Q => te σ H fun x H1 => tl σ H1 fun l H2 => th σ H2 fun u H3 => r x l u H3 Q
theorem pe_slice {r : V → Option Int → Option Int → Hp → VK → Prop} (hr : SlR X r) (he : PE X e te) (hl : PO X lo tl) (hu : PO X hi th) : PE X (.Subscript e (.Slice lo hi none p2) pos) (tSl r te tl th) := by
  intro pins s σ H Q I h
  refine Subscript_ (thn (he pins s σ H _ I h) fun v s1 ⟨x, H1, I1, r1, q1⟩ => ?_)
  refine wpAny_Slice (thn (hl pins s1 σ H1 _ I1 q1) fun vl s2 ⟨l, H2, I2, pl, q2⟩ => thn (hu pins s2 σ H2 _ I2 q2) fun vu s3 ⟨u, H3, I3, pu, q3⟩ => ?_)
  rw [evalPart_none]
  refine wpAny_pure ?_
  have I4 : Inv X pins σ H3 { s3 with heap := s3.heap.push { cls := .type "slice", data := .fields #[vl, vu, .none] } } := I3.kept (t' := s3.toks) fun b ob q => Heap.get?_push_of_some _ q
  obtain ⟨T, id, hT, ht, hg⟩ := hr pins { s3 with heap := s3.heap.push { cls := .type "slice", data := .fields #[vl, vu, .none] } } σ H3 x v vl vu l u s3.heap.objs.size Q I4 r1 (Heap.IsSliceOf.new ..) pl pu q3
  show wpAny (model X.prog X.w) X.A (subscriptTail e (.Slice lo hi none p2) v (.ref s3.heap.objs.size)) (EP X pins σ Q) X.xe { s3 with heap := s3.heap.push { cls := .type "slice", data := .fields #[vl, vu, .none] } }
  exact tail_any (ops := [.ref s3.heap.objs.size, v]) ht hT hg (by with_unfolding_all rfl)
def cutV (xs : List V) (lo hi : Option Int) : List V := (xs.drop (HT.sIx xs.length 0 lo)).take (HT.sIx xs.length xs.length hi - HT.sIx xs.length 0 lo)
theorem cutV_length (xs : List V) (lo hi : Option Int) : (cutV xs lo hi).length ≤ xs.length := by
  unfold cutV
  rw [List.length_take, List.length_drop]
  omega
end
end L2
namespace L2
open PySem PySem.Spec PyProof.Rows
def ixN (n : Nat) (i : Int) : Option Nat := if 0 ≤ i then (if i < n then some i.toNat else none) else if -(n : Int) ≤ i then some (i + n).toNat else none
def atI {α : Type} (xs : List α) (i : Int) : Option α := (ixN xs.length i).bind fun j => xs[j]?
theorem ixN_seq {n : Nat} {i : Int} {j : Nat} (h : ixN n i = some j) : seqIndex? i n = some j ∧ j < n ∧ -(n : Int) ≤ i ∧ i < n := by
  unfold ixN at h
  by_cases h0 : 0 ≤ i
  · rw [if_pos h0] at h
    by_cases h1 : i < n
    · rw [if_pos h1] at h
      have e : i.toNat = j := Option.some.inj h
      exact ⟨by rw [seqIndex_of h0 h1, e], by omega, by omega, h1⟩
    · rw [if_neg h1] at h; cases h
  · rw [if_neg h0] at h
    by_cases h1 : -(n : Int) ≤ i
    · rw [if_pos h1] at h
      have e : (i + n).toNat = j := Option.some.inj h
      exact ⟨by rw [seqIndex_neg (by omega) h1, e], by omega, h1, by omega⟩
    · rw [if_neg h1] at h; cases h
theorem atI_get {α : Type} {xs : List α} {i : Int} {v : α} (h : atI xs i = some v) : ∃ j, seqIndex? i xs.length = some j ∧ xs[j]? = some v ∧ j < xs.length ∧ -(xs.length : Int) ≤ i ∧ i < xs.length := by
  unfold atI at h
  cases e : ixN xs.length i with
  | none => rw [e] at h; cases h
  | some j =>
    rw [e] at h
    obtain ⟨h1, h2, h3, h4⟩ := ixN_seq e
    exact ⟨j, h1, h, h2, h3, h4⟩
theorem atI_nat {α : Type} {xs : List α} {j : Nat} {v : α} (h : xs[j]? = some v) : atI xs (j : Int) = some v := by
  have hj : j < xs.length := (List.getElem?_eq_some_iff.mp h).1
  have e : ixN xs.length (j : Int) = some j := by
    unfold ixN
    rw [if_pos (by omega), if_pos (by omega)]; simp
  unfold atI; rw [e]; exact h
def PlainIx (b : Expr) : Prop := ∀ o i, subscripted b false o i = operate [o, i] (getItem o i)
def IxR (X : Cx) (r : R2) : Prop :=
  ∀ (value slice : Expr) (pins : List (Addr × Obj)) (s : Shared) (σ : St) (H : Hp) (x y : V) (v u : Value) (Q : VK), Inv X pins σ H s → RelV x v → RelV y u → r x y H Q →
    subscripted slice false v u = operate [v, u] (getItem v u) → wpAny (model X.prog X.w) X.A (subscriptTail value slice v u) (EP X pins σ Q) X.xe s
def MtR (X : Cx) (id : String) (r : V → List V → Hp → VK → Prop) : Prop :=
  ∀ (pins : List (Addr × Obj)) (s : Shared) (σ : St) (H : Hp) (x : V) (xs : List V) (v : Value) (us : List Value) (Q : VK), Inv X pins σ H s → RelV x v → Vals xs us → r x xs H Q →
    wpAny (model X.prog X.w) X.A (call (.builtin id) (v :: us)) (EP X pins σ Q) X.xe s
section
variable {X : Cx} {a b : Expr} {ta tb : TE} {pos : Pos}
theorem pe_ix {r : R2} (hr : IxR X r) (ha : PE X a ta) (hb : PE X b tb) (hs : PlainIx b) : PE X (.Subscript a b pos) (tOp r ta tb) := by
  intro pins s σ H Q I h
  exact Subscript_ (binT ha hb I h fun v u s2 x y H2 I2 rx ry q => hr a b pins s2 σ H2 x y v u Q I2 rx ry q (hs _ _))
def rIxL (K : PySem.W.Frag) : R2 := fun x y H Q => ∃ p xs i v, x = .ref p ∧ y = .int i ∧ SqL K H p xs ∧ atI xs i = some v ∧ Q v H
def rIxT (K : PySem.W.Frag) : R2 := fun x y H Q => ∃ p xs i v, x = .ref p ∧ y = .int i ∧ SqT K H p xs ∧ atI xs i = some v ∧ Q v H
theorem ix_list : IxR X (rIxL X.K) := by
  intro value slice pins s σ H x y v u Q I rx ry h hs
  obtain ⟨p, xs, i, z, rfl, rfl, hq, he, q⟩ := h
  cases rx
  obtain ⟨t, rfl⟩ := ry
  obtain ⟨its, r, pl, hz⟩ := I.list hq
  obtain ⟨j, h1, h2, h3, h4, h5⟩ := atI_get he
  obtain ⟨w, ew, rw'⟩ := r.get h2
  have hl := r.length
  have hn := line63
  have fin : EP X pins σ Q w s := ⟨z, H, I, rw', q⟩
  by_cases h0 : 0 ≤ i
  · have hj : i.toNat = j := by
      rw [seqIndex_of h0 h5] at h1
      exact Option.some.inj h1
    exact item_listR pl.isList h0 (by omega) (by rw [hj]; simpa using ew) fin hs
  · have hj : (i + (its.toArray.size : Int)).toNat = j := by
      rw [seqIndex_neg (by omega) h4] at h1
      rw [List.size_toArray, ← hl]
      exact Option.some.inj h1
    exact subscriptTail_builtinR (x := w) pl.isList.typeIs slot_list_getitem.lookup
      (wpAny_getItem_list_neg (Q := fun r s' => r = w ∧ EP X pins σ Q r s') pl.isList (by omega) (by rw [List.size_toArray] <;> omega) (by omega) (by rw [hj]; simpa using ew) ⟨rfl, fin⟩) hs
theorem ix_tup : IxR X (rIxT X.K) := by
  intro value slice pins s σ H x y v u Q I rx ry h hs
  obtain ⟨p, xs, i, z, rfl, rfl, hq, he, q⟩ := h
  cases rx
  obtain ⟨t, rfl⟩ := ry
  obtain ⟨its, r, pl, hz⟩ := I.tuple hq
  obtain ⟨j, h1, h2, h3, h4, h5⟩ := atI_get he
  obtain ⟨w, ew, rw'⟩ := r.get h2
  have hl := r.length
  have hn := line63
  have fin : EP X pins σ Q w s := ⟨z, H, I, rw', q⟩
  exact subscriptTail_builtinR (x := w) pl.typeIs slot_tuple_getitem.lookup
    (getItem_tuple (j := j) (Q := fun r s' => r = w ∧ EP X pins σ Q r s') pl (by omega) (by omega) (by rw [List.size_toArray, ← hl]; exact h1) (by simpa using ew) ⟨rfl, fin⟩) hs
theorem mapSeq_set (its : List Value) (n j : Nat) (u : Value) : Obj.mapSeq (·.setIfInBounds j u) { cls := .type "list", data := .seq its.toArray n } = { cls := .type "list", data := .seq (its.set j u).toArray n } := by
  simp [Obj.mapSeq]
theorem Inv.lst {pins : List (Addr × Obj)} {σ : St} {H : Hp} {s : Shared} {p : Addr} {xs : List V} (I : Inv X pins σ H s) (h : H p = some (.lst xs)) :
    ∃ (its : List Value) (n : Nat), Vals xs its ∧ s.heap.get? p = some { cls := .type "list", data := .seq its.toArray n } ∧ xs.length ≤ sizeLine := by
  obtain ⟨z, its, n, r, e⟩ := I.hok p _ h
  exact ⟨its, n, r, e, z⟩
theorem Inv.lstUpd {pins : List (Addr × Obj)} {σ : St} {H : Hp} {s : Shared} {p : Addr} {xs ys : List V} {its its' : List Value} {n n' : Nat} {f : Obj → Obj} (I : Inv X pins σ H s) (h : H p = some (.lst xs))
    (ho : s.heap.get? p = some { cls := .type "list", data := .seq its.toArray n }) (hf : f { cls := .type "list", data := .seq its.toArray n } = { cls := .type "list", data := .seq its'.toArray n' }) (r : Vals ys its') (hz : ys.length ≤ sizeLine) (t : Nat) :
    Inv X pins σ (upd H p (.lst ys)) { s with heap := s.heap.update p f, toks := t } := by
  have e : (s.heap.update p f).get? p = some { cls := .type "list", data := .seq its'.toArray n' } := by
    rw [Heap.get?_update_self f ho (by rw [hf] <;> rfl), hf]
  refine I.write (x := p) (e := p) (by rw [h]; trivial) (.inl rfl) (fun b u hb q => (Heap.get?_update_other _ _ (Ne.symm hb)).trans q) ⟨_, e⟩ ?_
  exact ⟨hz, its', n', r, e⟩
def rSetL : V → V → V → Hp → (Hp → Prop) → Prop := fun o i v H Q => ∃ p xs k j, o = .ref p ∧ i = .int k ∧ H p = some (.lst xs) ∧ ixN xs.length k = some j ∧ Q (upd H p (.lst (xs.set j v)))
theorem set_list : PSet X rSetL := by
  intro pins s σ H o i v ov iv u Q I ro ri rv h
  obtain ⟨p, xs, k, j, rfl, rfl, hp, hj, q⟩ := h
  cases ro
  obtain ⟨t, rfl⟩ := ri
  obtain ⟨its, n, r, ho, hz⟩ := I.lst hp
  obtain ⟨h1, h2, h3, h4⟩ := ixN_seq hj
  have hl := r.length
  have hn := line63
  have I' : Inv X pins σ (upd H p (.lst (xs.set j v))) { s with heap := s.heap.update p (Obj.mapSeq (·.setIfInBounds j u)) } :=
    I.lstUpd hp ho (mapSeq_set its n j u) (r.set rv j) (by rw [List.length_set]; exact hz) s.toks
  by_cases h0 : 0 ≤ k
  · have hk : k.toNat = j := by
      rw [seqIndex_of h0 h4] at h1
      exact Option.some.inj h1
    exact PySem.W.ki_setAt ho h0 (by omega) (by rw [List.size_toArray, ← hl]; exact h4) (by rw [hk]; exact ⟨_, I', q⟩)
  · have hk : (k + (its.toArray.size : Int)).toNat = j := by
      rw [seqIndex_neg (by omega) h3] at h1
      rw [List.size_toArray, ← hl]
      exact Option.some.inj h1
    exact PySem.W.ki_setBack ho (by omega) (by rw [List.size_toArray, ← hl]; exact h3) (by omega) (by rw [hk]; exact ⟨_, I', q⟩)
theorem slice_bounds (lo hi : Option Int) (n : Nat) : (sliceBounds lo hi none n).1 = ((HT.sIx n 0 lo : Nat) : Int) ∧ (sliceBounds lo hi none n).2.1 = ((HT.sIx n n hi : Nat) : Int) ∧ (sliceBounds lo hi none n).2.2 = 1 := by
  refine ⟨?_, ?_, rfl⟩
  · cases lo with
    | none => simp [sliceBounds, HT.sIx]
    | some i =>
      simp only [sliceBounds, HT.sIx, Option.getD_none, show (1 : Int) > 0 by decide, if_true]
      by_cases h : i < 0
      · simp only [h, if_true] <;> omega
      · simp only [h, if_false] <;> omega
  · cases hi with
    | none => simp [sliceBounds, HT.sIx]
    | some i =>
      simp only [sliceBounds, HT.sIx, Option.getD_none, show (1 : Int) > 0 by decide, if_true]
      by_cases h : i < 0
      · simp only [h, if_true] <;> omega
      · simp only [h, if_false] <;> omega
theorem slicePick_cut (its : List Value) (lo hi : Option Int) : slicePick its.toArray lo hi none = ((its.drop (HT.sIx its.length 0 lo)).take (HT.sIx its.length its.length hi - HT.sIx its.length 0 lo)).toArray := by
  obtain ⟨h1, h2, h3⟩ := slice_bounds lo hi its.toArray.size
  unfold slicePick
  rw [h1, h2, h3]
  simp only [sliceRange_one, pick_run, List.size_toArray] <;> rfl
def rSlL (K : PySem.W.Frag) : V → Option Int → Option Int → Hp → VK → Prop := fun x lo hi H Q => ∃ a xs, x = .ref a ∧ SqL K H a xs ∧ ∀ p, H p = none → Q (.ref p) (upd H p (.lst (cutV xs lo hi)))
theorem sl_list : SlR X (rSlL X.K) := by
  intro pins s σ H x v vl vu lo hi sl Q I rx hs pl pu h
  obtain ⟨a, xs, rfl, hx, q⟩ := h
  cases rx
  obtain ⟨its, r, ht, hz⟩ := I.list hx
  have hlen := r.length
  refine ⟨"list", _, slot_list_getitem.lookup, ht.isList.typeIs, ?_⟩
  refine wpAny_getItem_list_slice ht.isList hs pl pu .none (by simp) ?_ (by rw [List.size_toArray] <;> omega)
  rw [slicePick_cut, ← hlen]
  refine ⟨.ref s.heap.objs.size, _, I.laid (t' := s.toks) (o := .lst (cutV xs lo hi)) (fun b ob q => Heap.get?_push_of_some _ q) (Nat.le_refl _) ?_, rfl, q _ (I.hok.fresh (Nat.le_refl _))⟩
  exact ⟨Nat.le_trans (cutV_length xs lo hi) hz, _, 0, (r.drop (HT.sIx xs.length 0 lo)).take (HT.sIx xs.length xs.length hi - HT.sIx xs.length 0 lo), Heap.get?_push_size _ rfl⟩
def flatV : V → Bool
  | .non => true
  | .bl _ => true
  | .int _ => true
  | .str _ => true
  | _ => false
def eqV : V → V → Bool
  | .non, .non => true
  | .bl a, .bl b => a == b
  | .bl a, .int b => (if a then 1 else 0) == b
  | .int a, .bl b => a == (if b then 1 else 0)
  | .int a, .int b => a == b
  | .str a, .str b => a == b
  | _, _ => false
theorem eqAt_V {A : Around} {s : Shared} {y x : V} {u v : Value} (ry : RelV y u) (rx : RelV x v) (fy : flatV y = true) (fx : flatV x = true) : SeqAt.EqAt A s u v (eqV y x) := by
  cases y with
  | non =>
    cases ry
    cases x with
    | non => cases rx; exact SeqAt.EqAt.same _
    | bl b => cases rx; exact SeqAt.EqAt.none_bool b
    | int b => obtain ⟨t, rfl⟩ := rx; exact SeqAt.EqAt.none_int b t
    | str b => obtain ⟨t, rfl⟩ := rx; exact SeqAt.EqAt.none_str b t
    | _ => exact absurd (show false = true from fx) Bool.false_ne_true
  | bl a =>
    cases ry
    cases x with
    | non => cases rx; exact SeqAt.EqAt.bool_none a
    | bl b => cases rx; exact SeqAt.EqAt.bool_bool a b
    | int b => obtain ⟨t, rfl⟩ := rx; exact SeqAt.EqAt.bool_int a b t
    | str b => obtain ⟨t, rfl⟩ := rx; exact SeqAt.EqAt.bool_str a b t
    | _ => exact absurd (show false = true from fx) Bool.false_ne_true
  | int a =>
    obtain ⟨t', rfl⟩ := ry
    cases x with
    | non => cases rx; exact SeqAt.EqAt.int_none a t'
    | bl b => cases rx; exact SeqAt.EqAt.int_bool a t' b
    | int b => obtain ⟨t, rfl⟩ := rx; exact SeqAt.EqAt.int_int a t' b t
    | str b => obtain ⟨t, rfl⟩ := rx; exact SeqAt.EqAt.int_str a t' b t
    | _ => exact absurd (show false = true from fx) Bool.false_ne_true
  | str a =>
    obtain ⟨t', rfl⟩ := ry
    cases x with
    | non => cases rx; exact SeqAt.EqAt.str_none a t'
    | bl b => cases rx; exact SeqAt.EqAt.str_bool a t' b
    | int b => obtain ⟨t, rfl⟩ := rx; exact SeqAt.EqAt.str_int a t' b t
    | str b => obtain ⟨t, rfl⟩ := rx; exact SeqAt.EqAt.str_str a t' b t
    | _ => exact absurd (show false = true from fx) Bool.false_ne_true
  | _ => exact absurd (show false = true from fy) Bool.false_ne_true
def eqU (x : V) (u : Value) : Bool := match u with
  | .none => eqV .non x
  | .bool b => eqV (.bl b) x
  | .int i _ => eqV (.int i) x
  | .str z _ => eqV (.str z) x
  | _ => false
theorem eqU_of {x y : V} {u : Value} (r : RelV y u) (f : flatV y = true) : eqU x u = eqV y x := by
  cases y with
  | non => cases r; rfl
  | bl b => cases r; rfl
  | int i => obtain ⟨t, rfl⟩ := r; rfl
  | str z => obtain ⟨t, rfl⟩ := r; rfl
  | _ => exact absurd (show false = true from f) Bool.false_ne_true
theorem any_eqU {x : V} : ∀ {xs : List V} {us : List Value}, Vals xs us → xs.all flatV = true → us.any (eqU x) = xs.any fun y => eqV y x
  | _, _, .nil, _ => rfl
  | y :: xs, u :: us, .cons r t, f => by
    rw [List.all_cons, Bool.and_eq_true] at f
    rw [List.any_cons, List.any_cons, eqU_of r f.1, any_eqU t f.2]
theorem mem_eqAt {A : Around} {s : Shared} {x : V} {v : Value} (rx : RelV x v) (fx : flatV x = true) : ∀ {xs : List V} {us : List Value}, Vals xs us → xs.all flatV = true → ∀ u ∈ us, SeqAt.EqAt A s u v (eqU x u)
  | _, _, .nil, _ => fun u hu => by cases hu
  | y :: xs, u :: us, .cons r t, f => fun u' hu => by
    rw [List.all_cons, Bool.and_eq_true] at f
    rcases List.mem_cons.mp hu with rfl | hu
    · rw [eqU_of r f.1]; exact eqAt_V r rx f.1 fx
    · exact mem_eqAt rx fx t f.2 u' hu
def inV (x : V) (xs : List V) : Bool := xs.any fun y => eqV y x
def rIn (K : PySem.W.Frag) (neg : Bool) : R2 := fun x y H Q => ∃ p xs, y = .ref p ∧ (SqL K H p xs ∨ SqT K H p xs) ∧ flatV x = true ∧ xs.all flatV = true ∧ Q (.bl (if neg then !inV x xs else inV x xs)) H
theorem op_in_seq : OpR X (compareOp .In) (rIn X.K false) := by
  intro pins s σ H x y v u Q I rx ry h
  obtain ⟨p, xs, rfl, hq, fx, fs, q⟩ := h
  cases ry
  rcases hq with hq | hq
  · obtain ⟨its, r, pl, hz⟩ := I.list hq
    refine SeqAt.in_listAt (eqU x) pl.isList (fun w hw => mem_eqAt rx fx r fs w (by simpa using hw)) ⟨.bl _, H, I, rfl, ?_⟩
    rw [show its.toArray.any (eqU x) = its.any (eqU x) by simp, any_eqU r fs]
    exact q
  · obtain ⟨its, r, pl, hz⟩ := I.tuple hq
    refine SeqAt.in_tupleAt (eqU x) pl (fun w hw => mem_eqAt rx fx r fs w (by simpa using hw)) ⟨.bl _, H, I, rfl, ?_⟩
    rw [show its.toArray.any (eqU x) = its.any (eqU x) by simp, any_eqU r fs]
    exact q
theorem call_len_seq : CallR X (.builtin "len") (fun xs H Q => ∃ p ys, xs = [.ref p] ∧ (SqL X.K H p ys ∨ SqT X.K H p ys) ∧ Q (.int ys.length) H) := by
  intro pins s σ H xs us Q I r h
  obtain ⟨p, ys, rfl, hq, q⟩ := h
  obtain ⟨u, rfl, rx⟩ := vals1 r
  cases rx
  have hn := line63
  rcases hq with hq | hq
  · obtain ⟨its, r', pl, hz⟩ := I.list hq
    have hlen := r'.length
    exact Calls.call_len_list pl.isList (by simp only [List.size_toArray] <;> omega) ⟨.int ys.length, H, I.tok _, ⟨s.toks + 1, by rw [List.size_toArray, hlen]⟩, q⟩
  · obtain ⟨its, r', pl, hz⟩ := I.tuple hq
    have hlen := r'.length
    exact len_tuple pl (by simp only [List.size_toArray] <;> omega) ⟨.int ys.length, H, I.tok _, ⟨s.toks + 1, by rw [List.size_toArray, hlen]⟩, q⟩
theorem call_list_of : CallR X (.type "list") (fun xs H Q => ∃ p ys, xs = [.ref p] ∧ (SqL X.K H p ys ∨ SqT X.K H p ys) ∧ ∀ l, H l = none → Q (.ref l) (upd H l (.lst ys))) := by
  intro pins s σ H xs us Q I r h
  obtain ⟨p, ys, rfl, hq, q⟩ := h
  obtain ⟨u, rfl, rx⟩ := vals1 r
  cases rx
  have fin : ∀ (its : List Value), Vals ys its → ys.length ≤ sizeLine → ∀ (h' : Heap) (c' : Nat), (∀ b o', s.heap.get? b = some o' → h'.get? b = some o') →
      h'.get? s.heap.objs.size = some { cls := .type "list", dict := none, data := .seq its.toArray c', slots := #[] } → EP X pins σ Q (.ref s.heap.objs.size) { s with heap := h' } := fun its r' hz h' c' kp e =>
    ⟨.ref s.heap.objs.size, _, I.laid (t' := s.toks) kp (Nat.le_refl _) (show ObjOk X.prog X.w _ h' _ (.lst ys) from ⟨hz, its, c', r', e⟩), rfl, q _ (I.hok.fresh (Nat.le_refl _))⟩
  rcases hq with hq | hq
  · obtain ⟨its, r', pl, hz⟩ := I.list hq
    have hlen := r'.length
    obtain ⟨o, ho, hc, n, hd⟩ := pl.isList
    exact call_list_seq p (.inl rfl) ho hc hd (fun h' c' kp e => fin its r' hz h' c' kp e) (by simp only [List.size_toArray] <;> omega)
  · obtain ⟨its, r', pl, hz⟩ := I.tuple hq
    have hlen := r'.length
    obtain ⟨o, ho, hc, n, hd⟩ := pl
    exact call_list_seq p (.inr rfl) ho hc hd (fun h' c' kp e => fin its r' hz h' c' kp e) (by simp only [List.size_toArray] <;> omega)
def tyV (K : PySem.W.Frag) (T : String) (x : V) (H : Hp) : Prop := match x with
  | .str _ => T = "str"
  | .int _ => T = "int"
  | .ref p => (T = "list" ∧ ∃ xs, SqL K H p xs) ∨ (T = "tuple" ∧ ∃ o, K.lookup p = some o ∧ o.cls = .type "tuple" ∧ o.dict = none) ∨
      (T = "dict" ∧ ((∃ kvs, H p = some (.dK kvs)) ∨ ∃ kvs, H p = some (.dT kvs))) ∨ (T = "set" ∧ ∃ S n, H p = some (.set S n))
  | _ => False
theorem tyV_is {pins : List (Addr × Obj)} {σ : St} {H : Hp} {s : Shared} {T : String} {x : V} {v : Value} (I : Inv X pins σ H s) (r : RelV x v) (ty : tyV X.K T x H) :
    s.TypeIs v T ∧ ∀ a, v = .ref a → ∃ ob, s.heap.get? a = some ob ∧ ob.dict = none := by
  cases x with
  | str z =>
    obtain ⟨t, rfl⟩ := r
    cases (show T = "str" from ty)
    exact ⟨typeIs_str s z t, fun _ e => nomatch e⟩
  | int i =>
    obtain ⟨t, rfl⟩ := r
    cases (show T = "int" from ty)
    exact ⟨typeIs_int s i t, fun _ e => nomatch e⟩
  | ref p =>
    cases r
    rcases ty with ⟨rfl, xs, hq⟩ | ⟨rfl, o, hk, hc, hd⟩ | ⟨rfl, hk⟩ | ⟨rfl, S, n, hk⟩
    · obtain ⟨its, _, pl, _⟩ := I.list hq
      refine ⟨pl.isList.typeIs, fun a e => ?_⟩
      cases e
      obtain ⟨o, n, e, c, hd, _⟩ := pl
      exact ⟨o, e, hd⟩
    · refine ⟨⟨o, I.kIn p o hk, hc⟩, fun a e => ?_⟩
      cases e
      exact ⟨o, I.kIn _ o hk, hd⟩
    · have z : ∃ o, s.heap.get? p = some o ∧ o.ExactDict := by
        rcases hk with ⟨kvs, hk⟩ | ⟨kvs, hk⟩
        · obtain ⟨_, _, _, _, o, _, _, e, ex, _⟩ := I.hok p _ hk
          exact ⟨o, e, ex⟩
        · obtain ⟨_, _, _, _, o, _, _, e, ex, _⟩ := I.hok p _ hk
          exact ⟨o, e, ex⟩
      obtain ⟨o, e, ex⟩ := z
      refine ⟨⟨o, e, ex.1⟩, fun a e2 => ?_⟩
      cases e2
      exact ⟨o, e, ex.2.1⟩
    · obtain ⟨o, _, _, _, e, ex, _⟩ := I.hok p _ hk
      refine ⟨⟨o, e, ex.1⟩, fun a e2 => ?_⟩
      cases e2
      exact ⟨o, e, ex.2.1⟩
  | _ => exact False.elim ty
def tBM (K : PySem.W.Frag) (T : String) (r : V → List V → Hp → VK → Prop) (to : TE) (t : TA) : TE := fun σ H Q => to σ H fun x H1 => tyV K T x H1 ∧ t σ H1 fun xs H2 => r x xs H2 Q
variable {o e : Expr} {es : List Expr} {to : TE} {t : TA} {name : Str} {apos cpos : Pos} {T id : String} {r : V → List V → Hp → VK → Prop}
theorem pe_bm (pa : PlainAttrs T) (slot : Slot T name id) (hty : typeOf (.builtin id) = pure (.type "method_descriptor")) (hm : MtR X id r) (ho : PE X o to) (ha : PA X (e :: es) t)
    (hbase : attributeBase o name X.env (eval o X.env) = eval o X.env := by rfl)
    (hfew : ((backTo cpos (starEach (e :: es) X.env)).all (fun x => !x.1) && (backToKw cpos (keywordEach [] X.env)).all (fun x => x.1.isSome)
      && decide ((e :: es).length + ([] : List Keyword).length + (if ([] : List Keyword).isEmpty then 0 else 1) < 30)) = true := by rfl)
    (hline : (apos.endLine == cpos.line) = true := by rfl) (hs : starEach (e :: es) X.env = (false, eval e X.env) :: starEach es X.env := by rfl) (hplain : (backTo cpos (starEach es X.env)).any (·.1) = false := by rfl) :
    PE X (.Call (.Attribute o name apos) (e :: es) [] cpos) (tBM X.K T r to t) := by
  intro pins s σ H Q I h
  refine wpAny_Call_method_late hbase hfew hline rfl (thn (ho pins s σ H _ I h) fun v s1 ⟨x, H1, I1, r1, ty, q1⟩ => ?_)
  obtain ⟨h1, h2⟩ := tyV_is I1 r1 ty
  refine ⟨T, id, pa, slot, hty, h1, h2, ?_⟩
  have hA := ha cpos pins s1 σ H1 _ I1 q1
  rw [hs] at hA ⊢
  refine Calls.callWith_builtin (by show (false || (backTo cpos (starEach es X.env)).any (·.1)) = false; rw [hplain] <;> rfl) (Calls.evalArgs_plain ?_)
  exact thn hA fun us s2 ⟨vs, H2, I2, r2, q2⟩ => hm pins s2 σ H2 x vs v us Q I2 r1 r2 q2
end
end L2
namespace L2
open PySem PySem.Spec PyProof.Rows
def MtM (X : Cx) (id : String) (r : V → List V → Hp → VK → Prop) : Prop :=
  ∀ (pins : List (Addr × Obj)) (s : Shared) (σ : St) (H : Hp) (x : V) (xs : List V) (v : Value) (us : List Value) (Q : VK), Inv X pins σ H s → RelV x v → Vals xs us → r x xs H Q →
    wpAny (model X.prog X.w) X.A (call (.builtin id) (v :: us)) (EP X pins σ Q) X.xe s
theorem Vals.one : ∀ {x : V} {us : List Value}, Vals [x] us → ∃ u, us = [u] ∧ RelV x u
  | _, _, .cons r .nil => ⟨_, rfl, r⟩
theorem Vals.rep {xs : List V} {us : List Value} (h : Vals xs us) : ∀ k : Nat, Vals (List.replicate k xs).flatten (List.replicate k us).flatten
  | 0 => .nil
  | k + 1 => by
    rw [List.replicate_succ, List.replicate_succ, List.flatten_cons, List.flatten_cons]
    exact Vals.append h (Vals.rep h k)
theorem foldl_rep (its : List Value) : ∀ (k : Nat) (acc : List Value),
    List.foldl (fun x1 x2 => x1 ++ x2) acc.toArray (List.replicate k its.toArray) = (acc ++ (List.replicate k its).flatten).toArray
  | 0, acc => by simp
  | k + 1, acc => by
    have e : acc.toArray ++ its.toArray = (acc ++ its).toArray := by simp
    have e2 : (acc ++ its) ++ (List.replicate k its).flatten = acc ++ (List.replicate (k + 1) its).flatten := by
      rw [List.replicate_succ, List.flatten_cons, List.append_assoc]
    rw [← e2, ← foldl_rep its k (acc ++ its), ← e, List.replicate_succ, List.foldl_cons]
section
variable {X : Cx} {pins : List (Addr × Obj)} {σ : St} {H : Hp} {s : Shared} {l b : Addr} {xs ys zs : List V}
theorem Inv.lset {its its' : List Value} {n : Nat} {f : Array Value → Array Value} {t' : Nat} (I : Inv X pins σ H s) (hH : H l = some (.lst xs))
    (e : s.heap.get? l = some { cls := .type "list", data := .seq its.toArray n }) (hf : f its.toArray = its'.toArray) (hv : Vals ys its') (hz : ys.length ≤ sizeLine) :
    Inv X pins σ (upd H l (.lst ys)) { s with heap := s.heap.update l (Obj.mapSeq f), toks := t' } := by
  have q := PySem.IsL.update e f
  rw [hf] at q
  refine I.write (x := l) (e := l) (by rw [hH]; exact trivial) (.inl rfl) (fun b' u hb hu => (Heap.get?_update_other s.heap (Obj.mapSeq f) (Ne.symm hb)).trans hu) ⟨_, q⟩ ?_
  exact ⟨hz, its', _, hv, q⟩
theorem Inv.lnew {its : List Value} {t' : Nat} (I : Inv X pins σ H s) (hv : Vals ys its) (hz : ys.length ≤ sizeLine) :
    Inv X pins σ (upd H s.heap.objs.size (.lst ys)) { s with heap := s.heap.push { cls := .type "list", data := .seq its.toArray }, toks := t' } :=
  I.laid (fun _ _ q => Heap.get?_push_of_some _ q) (Nat.le_refl _) ⟨hz, its, 0, hv, Heap.get?_push_size _ rfl⟩
theorem Inv.fresh (I : Inv X pins σ H s) : H s.heap.objs.size = none := I.hok.fresh (Nat.le_refl _)
theorem Inv.lstM (I : Inv X pins σ H s) (hH : H l = some (.lst xs)) : xs.length ≤ sizeLine ∧ ∃ (its : List Value) (n : Nat), Vals xs its ∧ xs.length = its.length ∧ s.heap.get? l = some { cls := .type "list", data := .seq its.toArray n } := by
  obtain ⟨z, its, n, r, e⟩ := I.hok l _ hH
  exact ⟨z, its, n, r, r.length, e⟩
theorem notLongL {n : Nat} (h : n ≤ sizeLine) : Builtin.List.listTooLong n = false := by
  unfold Builtin.List.listTooLong
  exact decide_eq_false (by omega)
end
section
variable {X : Cx}
def rAppend : V → List V → Hp → VK → Prop := fun x vs H Q => ∃ l xs y, x = .ref l ∧ vs = [y] ∧ H l = some (.lst xs) ∧ xs.length < sizeLine ∧ Q .non (upd H l (.lst (xs ++ [y])))
theorem mt_append : MtM X "list.append" rAppend := by
  intro pins s σ H x vs v us Q I rx rv h
  obtain ⟨l, xs, y, rfl, rfl, hH, hz, q⟩ := h
  cases rx
  obtain ⟨u, rfl, ru⟩ := rv.one
  obtain ⟨z, its, n, r, hl, e⟩ := I.lstM hH
  refine call_meets F.slot_list_append ⟨_, e, rfl⟩ F.entry_list_append (F.args_list_append_2 _ _) (PySem.list_append l its.toArray n u (by rw [List.size_toArray]; omega)) ⟨e, ?_⟩
  refine ⟨.non, _, I.lset (its' := its ++ [u]) hH e (by simp) (r.append (.cons ru .nil)) ?_, rfl, q⟩
  rw [List.length_append, List.length_singleton]
  omega
def rCat : R2 := fun x y H Q => ∃ l b xs zs, x = .ref l ∧ y = .ref b ∧ H l = some (.lst xs) ∧ H b = some (.lst zs) ∧ xs.length + zs.length ≤ sizeLine ∧ ∀ p, H p = none → Q (.ref p) (upd H p (.lst (xs ++ zs)))
theorem op_cat : OpR X (binaryOp .Add) rCat := by
  intro pins s σ H x y v u Q I rx ry h
  obtain ⟨l, b, xs, zs, rfl, rfl, hH, hB, hz, q⟩ := h
  cases rx
  cases ry
  obtain ⟨z, its, n, r, hl, e⟩ := I.lstM hH
  obtain ⟨z2, its2, n2, r2, hl2, e2⟩ := I.lstM hB
  refine PySem.P.add_list e e2 ?_ (by rw [List.size_toArray, List.size_toArray]; omega)
  have ea : its.toArray ++ its2.toArray = (its ++ its2).toArray := by simp
  rw [ea]
  exact ⟨.ref _, _, I.lnew (t' := s.toks) (r.append r2) (by rw [List.length_append]; omega), rfl, q _ I.fresh⟩
def rRep : R2 := fun x y H Q => ∃ l k xs, x = .ref l ∧ y = .int k ∧ H l = some (.lst xs) ∧ -(2 ^ 63) ≤ k ∧ k < 2 ^ 63 ∧ xs.length * k.toNat ≤ sizeLine ∧
  ∀ p, H p = none → Q (.ref p) (upd H p (.lst (List.replicate k.toNat xs).flatten))
theorem len_rep {α : Type} (xs : List α) (k : Nat) : (List.replicate k xs).flatten.length = k * xs.length := by
  induction k with
  | zero => simp
  | succ k ih => rw [List.replicate_succ, List.flatten_cons, List.length_append, ih, Nat.succ_mul, Nat.add_comm]
theorem op_rep : OpR X (binaryOp .Mult) rRep := by
  intro pins s σ H x y v u Q I rx ry h
  obtain ⟨l, k, xs, rfl, rfl, hH, h1, h2, hz, q⟩ := h
  cases rx
  obtain ⟨t, rfl⟩ := ry
  obtain ⟨z, its, n, r, hl, e⟩ := I.lstM hH
  have hlen : its.toArray.size * k.toNat ≤ sizeLine := by rw [List.size_toArray, ← hl]; exact hz
  have hcap : ¬ its.toArray.size * k.toNat > (2 ^ 63 - 1) / 8 := by
    have : (sizeLine : Nat) ≤ (2 ^ 63 - 1) / 8 := by decide
    omega
  have hfit : ¬ (!Builtin.List.listFitsIndex k) = true := by
    rw [fitsIndex_both h1 h2]
    exact Bool.false_ne_true
  have hlong : ¬ Builtin.List.listTooLong (its.toArray.size * k.toNat) = true := by
    rw [notLongL hlen]
    exact Bool.false_ne_true
  have hnew : List.foldl (fun x1 x2 => x1 ++ x2) #[] (List.replicate (if its.toArray.isEmpty = true then 0 else k.toNat) its.toArray) = (List.replicate k.toNat its).flatten.toArray := by
    have f0 : ∀ m : Nat, List.foldl (fun x1 x2 => x1 ++ x2) #[] (List.replicate m its.toArray) = (List.replicate m its).flatten.toArray := fun m => by
      have := foldl_rep its m []
      rw [List.nil_append] at this
      exact this
    rw [f0]
    cases its with
    | nil => simp
    | cons a r' => rw [if_neg (by simp)]
  refine wpAny_binaryOp_repeat_ref (T := "list") (U := "int") (by decide) ⟨_, e, rfl⟩ (fun s' => typeIs_int s' k t) noFill_list_mul F.fills_int_mul F.slot_int_rmul repeat_list F.slot_int_index.lookup
    (call_meets F.slot_int_rmul (typeIs_int s k t) F.entry_int_rmul (F.args_int_rmul_2 _ _) (int___rmul___int_list k t l its.toArray n)
      ⟨e, rfl, ⟨_, e, rfl⟩, call_meets F.slot_list_mul ⟨_, e, rfl⟩ F.entry_list_mul (F.args_list_mul_2 _ _) (AutoListH.list___mul___list_int_3 l its.toArray n k t hfit hcap hlong) ⟨e, ?_⟩⟩)
  rw [hnew]
  exact ⟨.ref _, _, I.lnew (t' := s.toks) (r.rep k.toNat) (by rw [len_rep, Nat.mul_comm]; exact hz), rfl, q _ I.fresh⟩
end
section
variable {prog : Program} {w : World} {A : Around} {E : Value → Shared → Prop} {s : Shared}
end
section
variable {X : Cx}
end
end L2
namespace Att
open PySem PySem.W PySem.Calls PyProof.Rows
theorem ints_of_wellAll {P : Params} {h : Heap} : ∀ (ns : List Int) (vs : List Value), WellAll P h vs (ns.map WData.int) → IntsAre vs ns := by
  intro ns
  induction ns with
  | nil =>
    intro vs w
    rw [List.map_nil] at w
    cases w
    exact .nil
  | cons n ns ih =>
    intro vs w
    rw [List.map_cons] at w
    cases w with
    | cons a b =>
      cases a
      exact .cons _ _ (ih _ b)
theorem script_of {l : OpenLaw} {n : Nat} (hn : l.most = some n) {P : Params} {h : Heap} {args : List WData} {vals : List Value}
    (hpre : l.row.toRowW.claim.pre args = true) (hwl : WellAll P h vals args) :
    ∃ a vs ns, vals = [Value.ref a] ∧ args = [WData.list (ns.map WData.int)] ∧ h.get? a = some { cls := .type "list", data := .seq vs.toArray } ∧ IntsAre vs ns ∧ ns.length ≤ n := by
  have hsh : WShape.hasAll [] args [.list .int] = true := (pre_splitW hpre).1
  have hc : l.pre.holds [] { args := args } = true := (pre_splitW hpre).2
  obtain ⟨d, r, rfl, h1, h2⟩ := hasAllW_cons hsh
  obtain rfl := hasAllW_nil h2
  obtain ⟨xs, rfl, h3⟩ := hasW_list h1
  obtain ⟨ns, rfl⟩ := items_int h3
  have hlen : ns.length ≤ n := by
    unfold OpenLaw.pre at hc
    have h4 : (WTm.not (.lt (.lit (.int (n : Int))) (.len (.arg 0)))).holds [] { args := [.list (ns.map .int)] } = true := by
      have h4 := (holds_andW hc).1
      rw [hn] at h4
      exact h4
    have h5 := condW_of h4 (w_not (w_lt w_lit (w_len_list (w_arg rfl))))
    rw [List.length_map] at h5
    refine Nat.le_of_not_lt fun q => ?_
    have q' : (n : Int) < ((ns.length : Nat) : Int) := by omega
    first
      | (rw [decide_eq_true q'] at h5; exact absurd h5 (by decide))
      | (simp at h5; omega)
  cases hwl with
  | cons w1 w2 =>
    cases w2
    cases w1 with
    | list ho hall => exact ⟨_, _, ns, rfl, rfl, ho, ints_of_wellAll ns _ hall, hlen⟩
theorem post_true (l : OpenLaw) (args : List WData) : l.row.toRowW.claim.post args (.bool true) args = true :=
  postW_of (r := l.row.toRowW) (X := (true == true))
    (show WShape.has [] (.bool true) .bool = true by first | rfl | decide | simp [WShape.has, WShape.arms, WShape.armsAll])
    (show (WTm.eq .res (.lit (.bool true))).value [] { args := args, res := some (.bool true), after := args } = some (.bool (true == true)) from w_eq_bool (w_res rfl) w_lit) rfl
theorem attach_call {l : OpenLaw} {n : Nat} {q : Program} {loose : List Str} {XP : (Str → Option Value) → Heap → Prop} {YP : World → Heap → Prop} {d : DefRec}
    (hn : l.most = some n) (hdf : d.params.defaults = [])
    (call : ∀ (w : World) (s₀ s₁ : Shared) (mg mb : Str → Option Value) (fa : Addr) (o : Obj) (pm cd doc : Value) (a : Addr) (vs : List Value) (ns : List Int),
      Ground q loose [] XP w s₀ mg mb s₁.heap → YP w s₁.heap →
      s₁.heap.get? fa = some o → o.data = .func (docDef d.name d.params d.body d.scope pm cd doc) → s₁.heap.CodeRec cd d.name → mg d.name = some (.ref fa) →
      s₁.heap.get? a = some { cls := .type "list", data := .seq vs.toArray } → IntsAre vs ns → ns.length ≤ n → s₁.gens = #[] →
      codeAny (model l.prog w) callerA (.call (.ref fa) ⟨[.ref a], []⟩) (fun r s' => r = .ok (.ret (.bool true)) ∧ OldK s₁.heap s'.heap ∧ s'.os = s₁.os ∧ AllBare s'.gens) s₁) :
    WalkO q loose XP YP l.row.toRowW d [] (fun f vs => PySem.call f vs) := by
  intro w s₀ s₁ mg mb G Y fa o pm cd doc dV kV ho hd hcd hD hmg hg args vals as hpre hlay hrd hwl hlo
  obtain rfl : dV = .none := Dflts.none hD hdf
  obtain rfl : kV = .none := Dflts.noKw hD
  obtain ⟨a, vs, ns, rfl, rfl, hobj, hints, hlen⟩ := script_of hn hpre hwl
  refine enter_call (codeAny_mono (call w s₀ s₁ mg mb fa o pm cd doc a vs ns G Y ho (fd_plain hd) hcd hmg hobj hints hlen hg) fun r s' hq => ?_)
  obtain ⟨rfl, h2, h3, h4⟩ := hq
  exact ⟨.inl ⟨.bool true, .bool true, [], rfl, fun _ => rfl, .bool true, post_true l _, fun _ => ⟨List.Pairwise.nil, fun _ hm => (nomatch hm)⟩⟩, h2, h3, h4⟩
section
variable {prog : Program} {w : World} {A : Around} {E : Value → Shared → Prop} {s : Shared} {K : Frag}
end
end Att
namespace L2
open PySem PySem.Spec PyProof.Rows
theorem vals_ints : ∀ {vs : List Value} {ns : List Int}, IntsAre vs ns → Vals (ns.map V.int) vs
  | _, _, .nil => .nil
  | _, _, .cons n t h => .cons ⟨t, rfl⟩ (vals_ints h)
def Only (H : Hp) : Prop := ∀ b, H b = none ∨ ∃ o xs, H b = some (.frz o (.lst xs))
theorem law_call {P : Program} {w : World} {K : PySem.W.Frag} {mg mb : Str → Option Value} {CX : CXT} {k : Nat} {fa a : Addr} {fd : FuncData} {x : Str} {sp : Sp} {s₁ : Shared} {vs : List Value} {ns : List Int}
    (KX : K.In s₁.heap) (hns : s₁.heap.Ns mainGlobals mg) (hb : s₁.heap.Ns builtinsNs mb) (hbb : ∀ x : Str, x ≠ "__name__" → mb x = bootBuiltins x) (hlim : s₁.heap.NoLimit) (hg : s₁.gens = #[])
    (ha : s₁.heap.get? a = some { cls := .type "list", data := .seq vs.toArray }) (hi : IntsAre vs ns) (hl : ns.length ≤ sizeLine) (hr : Room k callerA)
    (F : ∀ base : Heap, K.In base → base.Ns mainGlobals mg → FnOk P w K mg base CX k fa fd [x] sp) (hbind : ∀ (s : Shared) (u : Value), BindsTo s fd ⟨[u], []⟩ [(x, u)])
    (hsp : ∀ H : Hp, Only H → SqL K H a (ns.map V.int) → sp [.ref a] H (fun v _ => v = .bl true) fun _ _ _ => False)
    (hCX : ∀ H e s', CX [] H s₁ (fun _ _ _ => False) e s' → False) :
    codeAny (model P w) callerA (.call (.ref fa) ⟨[.ref a], []⟩) (fun r s' => r = .ok (.ret (.bool true)) ∧ OldK s₁.heap s'.heap ∧ s'.os = s₁.os ∧ AllBare s'.gens) s₁ := by
  have rv := vals_ints hi
  have lenV := hi.length
  have core : ∀ H : Hp, Only H → SqL K H a (ns.map V.int) → HOk P w H s₁.heap → (∀ b, H b ≠ none → b = a) → (H a ≠ none → K.lookup a = none) →
      codeAny (model P w) callerA (.call (.ref fa) ⟨[.ref a], []⟩) (fun r s' => r = .ok (.ret (.bool true)) ∧ OldK s₁.heap s'.heap ∧ s'.os = s₁.os ∧ AllBare s'.gens) s₁ := by
    intro H hO hS hok hA hK
    have base_of : ∀ {b : Addr} {o : Obj}, s₁.heap.get? b = some o → H b = none → (hidT s₁.heap H).get? b = some o := fun e n => hidT_get e n
    have noA : ∀ {b : Addr} {o : Obj} {es : Array DictEntry} {ep : Nat}, s₁.heap.get? b = some o → o.data = .dict es ep → H b = none := fun {b o es ep} e d => by
      cases q : H b with
      | none => rfl
      | some u =>
        have e' : b = a := hA b (by rw [q]; simp)
        subst e'
        rw [ha] at e; cases e
        have d' : Data.seq vs.toArray _ = Data.dict es ep := d
        cases d'
    have nsK : ∀ {b : Addr} {m : Str → Option Value}, s₁.heap.Ns b m → (hidT s₁.heap H).Ns b m := fun {b m} ⟨o, es, ep, e, d, r⟩ => ⟨o, es, ep, base_of e (noA e d), d, r⟩
    have hKb : K.In (hidT s₁.heap H) := fun b o e => base_of (KX b o e) (by
      cases q : H b with
      | none => rfl
      | some u =>
        have e' : b = a := hA b (by rw [q]; simp)
        subst e'
        rw [hK (by rw [q]; simp)] at e; cases e)
    have hM : Mod K mg (hidT s₁.heap H) := ⟨hKb, nsK hns, ⟨mb, nsK hb, hbb⟩, let ⟨mc, h1, h2⟩ := hlim; ⟨mc, nsK h1, h2⟩⟩
    have e0 : Env0 P w K mg (hidT s₁.heap H) callerA [] s₁ H := ⟨rfl, hM, fun b o e => of_hidT e, Nat.le_of_eq (hidT_size _ _), trivial, fun b hb => absurd (show b ∈ ([] : List Addr) from hb) (by simp), hok, .of_eq hg⟩
    refine codeAny_mono ((F _ hKb (nsK hns)).run callerA [] s₁ H ⟨[.ref a], []⟩ [.ref a] [.ref a] _ _ hr e0 (hbind s₁ (.ref a)) (.cons rfl .nil) (hsp H hO hS)) fun r s' h => ?_
    cases r with
    | error e => exact (hCX H e s' h).elim
    | ok fl =>
      cases fl with
      | next => exact False.elim h
      | brk => exact False.elim h
      | cont => exact False.elim h
      | ret u =>
        obtain ⟨v, H', os, bare, un, hok', r', q⟩ := h
        have q' : v = .bl true := q
        subst q'
        obtain rfl : u = Value.bool true := r'
        refine ⟨rfl, OldK.of_keep fun b o e => ?_, os, bare⟩
        cases q : H b with
        | none => exact un.keep b o e q (by intro z; exact absurd (show b ∈ ([] : List Addr) from z) (by simp)) (by simp)
        | some u =>
          rcases hO b with z | ⟨ob, xs, z⟩
          · rw [q] at z; cases z
          · have z2 := un.frzs b ob _ z
            obtain ⟨e1, _⟩ := hok b _ z
            obtain ⟨e2, _⟩ := hok' b _ z2
            rw [e] at e1; cases e1
            exact e2
  cases hk : K.lookup a with
  | some o =>
    have e := KX a o hk
    rw [ha] at e
    cases e
    refine core (fun _ => none) (fun _ => .inl rfl) (.inr ⟨_, vs.toArray, _, hk, rfl, rfl, rfl, by rw [List.size_toArray, lenV]; exact hl, by simpa using rv⟩) (fun b u z => by have z' : (none : Option HO) = some u := z; cases z') (fun b z => absurd rfl z) fun z => absurd rfl z
  | none =>
    refine core (fun b => if b = a then some (.frz { cls := .type "list", data := .seq vs.toArray } (.lst (ns.map V.int))) else none) (fun b => ?_) (.inl (.inr ⟨{ cls := .type "list", data := .seq vs.toArray }, if_pos rfl⟩)) (fun b u z => ?_) (fun b z => ?_) fun _ => hk
    · by_cases hb : b = a
      · exact .inr ⟨_, _, if_pos hb⟩
      · exact .inl (if_neg hb)
    · by_cases hb : b = a
      · have z' := (if_pos hb).symm.trans z
        cases z'
        subst hb
        exact ⟨ha, by rw [List.length_map]; exact hl, vs, _, rv, ha⟩
      · have z' := (if_neg hb).symm.trans z
        cases z'
    · by_cases hb : b = a
      · exact hb
      · exact absurd (if_neg hb) z
end L2
namespace L2
open PySem PySem.Spec PyProof.Rows
theorem walk_of {l : PySem.W.OpenLaw} {n k : Nat} {q : Program} {loose : List Str} {XP : (Str → Option Value) → Heap → Prop} {YP : World → Heap → Prop} {d : DefRec} {K : Params → PySem.W.Frag} {CX : World → CXT} {sp : World → Sp} {x : Str}
    (hn : l.most = some n) (hn2 : n ≤ sizeLine) (hdf : d.params.defaults = []) (hr : Room k callerA)
    (hY : ∀ (w : World) (h : Heap), YP w h → (K w.params).In h)
    (F : ∀ (w : World) (mg : Str → Option Value) (fa : Addr) (h : Heap), (K w.params).In h → h.Ns mainGlobals mg → mg d.name = some (.ref fa) →
      ∃ fd : FuncData, (∀ (s : Shared) (u : Value), BindsTo s fd ⟨[u], []⟩ [(x, u)]) ∧
        ∀ base : Heap, (K w.params).In base → base.Ns mainGlobals mg → FnOk l.prog w (K w.params) mg base (CX w) k fa fd [x] (sp w))
    (hsp : ∀ (w : World) (H : Hp) (a : Addr) (ns : List Int), ns.length ≤ n → Only H → SqL (K w.params) H a (ns.map V.int) → sp w [.ref a] H (fun v _ => v = .bl true) fun _ _ _ => False)
    (hCX : ∀ (w : World) (H : Hp) (s : Shared) (e : Value) (s' : Shared), CX w [] H s (fun _ _ _ => False) e s' → False) :
    PySem.W.WalkO q loose XP YP l.row.toRowW d [] (fun f vs => PySem.call f vs) := by
  refine Att.attach_call hn hdf fun w s₀ s₁ mg mb fa o pm cd doc a vs ns G Y ho hd hcd hmg hobj hints hlen hg => ?_
  have KX := hY w _ Y
  obtain ⟨fd, hb, hF⟩ := F w mg fa _ KX G.T.g hmg
  exact law_call KX G.T.g G.T.b G.T.builtins G.T.nolimit hg hobj hints (Nat.le_trans hlen hn2) hr hF hb (fun H hO hS => hsp w H a ns hlen hO hS) fun H e s' => hCX w H s₁ e s'
end L2
namespace L2
open PySem PySem.Spec PyProof.Rows
def inClass (s : Stmt) (j : Nat) : Stmt := match s with
  | .ClassDef _ _ _ body _ _ _ _ _ _ _ => body.getD j (.Pass ⟨0, 0, 0, 0⟩)
  | _ => .Pass ⟨0, 0, 0, 0⟩
def defArgs (s : Stmt) : Arguments := match s with
  | .FunctionDef _ a _ _ _ _ _ _ _ _ => a
  | _ => { posonlyargs := [], args := [], vararg := none, kwonlyargs := [], kw_defaults := [], kwarg := none, defaults := [] }
def defBody (s : Stmt) : List Stmt := match s with
  | .FunctionDef _ _ b _ _ _ _ _ _ _ => b
  | _ => []
def defScope (s : Stmt) : Scope := match s with
  | .FunctionDef _ _ _ _ _ _ sc _ _ _ => sc
  | _ => { kind := .function, names := [], isGenerator := false, isCoroutine := false }
section
variable {P : Program} {w : World} {K : PySem.W.Frag} {mg : Str → Option Value} {base : Heap}
end
section
variable {X : Cx}
theorem pv (i : Nat) {x : Str} {pos : Pos} (hN : X.N[i]? = some x := by rfl) (hv : Vis X.env.scope x := by first | exact Or.inl rfl | exact Or.inr (Or.inl rfl) | exact Or.inr (Or.inr rfl)) (hd : (x == ("__debug__" : Str)) = false := by decide)
    (hcd : (x == ("__classdict__" : Str)) = false := by decide) : PE X (.Name x pos) (tVar i) := pe_var hN hv hd hcd
end
theorem iteF {A B : Prop} (h : B) : if false = true then A else B := by
  rw [if_neg Bool.false_ne_true]
  exact h
theorem iteT {A B : Prop} (h : A) : if true = true then A else B := by
  rw [if_pos rfl]
  exact h
def Same (H H' : Hp) : Prop := ∀ b o, H b = some o → H' b = some o
theorem Same.refl (H : Hp) : Same H H := fun _ _ h => h
theorem Same.trans {H H1 H2 : Hp} (a : Same H H1) (b : Same H1 H2) : Same H H2 := fun c o h => b c o (a c o h)
theorem Same.seq {K : PySem.W.Frag} {H H' : Hp} {a : Addr} {xs : List V} (e : Same H H') (h : SqL K H a xs) : SqL K H' a xs := by
  rcases h with (h | ⟨o, h⟩) | h
  · exact .inl (.inl (e _ _ h))
  · exact .inl (.inr ⟨o, e _ _ h⟩)
  · exact .inr h
end L2

namespace L2
open PySem PySem.Spec PyProof.Rows
section
variable {κ : Type} [DecidableEq κ]
def valV (kvs : List (κ × V)) (k : κ) : Option V := (kvs.find? fun kv => decide (kv.1 = k)).map (·.2)
def putK (kvs : List (κ × V)) (k : κ) (v : V) : List (κ × V) :=
  if (kvs.any fun kv => decide (kv.1 = k)) = true then kvs.map (fun kv => if kv.1 = k then (kv.1, v) else kv) else kvs ++ [(k, v)]
def dropK (kvs : List (κ × V)) (k : κ) : List (κ × V) := kvs.filter fun kv => decide (kv.1 ≠ k)
theorem valV_pos {p : κ × V} {r : List (κ × V)} {k : κ} (e : p.1 = k) : valV (p :: r) k = some p.2 := by simp [valV, List.find?_cons, e]
theorem valV_neg {p : κ × V} {r : List (κ × V)} {k : κ} (e : ¬ p.1 = k) : valV (p :: r) k = valV r k := by simp [valV, List.find?_cons, e]
theorem valV_any (k : κ) : ∀ kvs : List (κ × V), (kvs.any fun kv => decide (kv.1 = k)) = (valV kvs k).isSome
  | [] => rfl
  | p :: r => by
    rw [List.any_cons]
    by_cases e : p.1 = k
    · simp only [valV_pos e, decide_eq_true e, Bool.true_or, Option.isSome_some]
    · rw [valV_neg e, decide_eq_false e, Bool.false_or]; exact valV_any k r
theorem valV_map (k j : κ) (y : V) : ∀ kvs : List (κ × V), valV (kvs.map fun kv => if kv.1 = k then (kv.1, y) else kv) j = (valV kvs j).map fun x => if j = k then y else x
  | [] => rfl
  | p :: r => by
    have ih := valV_map k j y r
    rw [List.map_cons]
    by_cases h : p.1 = k
    · rw [if_pos h]
      by_cases e : p.1 = j
      · rw [valV_pos (p := (p.1, y)) e, valV_pos e, Option.map_some, if_pos (e.symm.trans h)]
      · rw [valV_neg (p := (p.1, y)) e, valV_neg e, ih]
    · rw [if_neg h]
      by_cases e : p.1 = j
      · rw [valV_pos (p := p) e, valV_pos e, Option.map_some, if_neg (fun z => h (e.trans z))]
      · rw [valV_neg (p := p) e, valV_neg e, ih]
theorem valV_snoc (k j : κ) (y : V) : ∀ kvs : List (κ × V), valV kvs k = none → valV (kvs ++ [(k, y)]) j = if j = k then some y else valV kvs j
  | [], _ => by
    by_cases e : k = j
    · rw [if_pos e.symm]; exact valV_pos (p := (k, y)) e
    · rw [if_neg (fun z => e z.symm)]; exact valV_neg (p := (k, y)) e
  | p :: r, hn => by
    rw [List.cons_append]
    have hk : ¬ p.1 = k := fun z => by rw [valV_pos z] at hn; cases hn
    rw [valV_neg hk] at hn
    have ih := valV_snoc k j y r hn
    by_cases e : p.1 = j
    · rw [valV_pos e, valV_pos e, if_neg (fun z => hk (e.trans z))]
    · rw [valV_neg e, valV_neg e, ih]
theorem valV_put (kvs : List (κ × V)) (k j : κ) (y : V) : valV (putK kvs k y) j = if j = k then some y else valV kvs j := by
  unfold putK
  by_cases a : (kvs.any fun kv => decide (kv.1 = k)) = true
  · rw [if_pos a, valV_map]
    rw [valV_any] at a
    by_cases e : j = k
    · obtain ⟨x, hx⟩ := Option.isSome_iff_exists.mp a
      rw [if_pos e, e, hx, Option.map_some, if_pos rfl]
    · rw [if_neg e]
      cases valV kvs j with
      | none => rfl
      | some x => rw [Option.map_some, if_neg e]
  · rw [if_neg a]
    refine valV_snoc k j y kvs ?_
    rw [valV_any] at a
    cases q : valV kvs k with
    | none => rfl
    | some x => rw [q] at a; exact (a rfl).elim
theorem length_putK (kvs : List (κ × V)) (k : κ) (v : V) : (putK kvs k v).length ≤ kvs.length + 1 := by
  unfold putK
  split
  · rw [List.length_map]; omega
  · rw [List.length_append, List.length_cons, List.length_nil]; omega
theorem putK_new {kvs : List (κ × V)} {k : κ} (v : V) (h : valV kvs k = none) : putK kvs k v = kvs ++ [(k, v)] := by
  unfold putK
  rw [valV_any, h]
  exact if_neg (by decide)
theorem RelO.isSome_eq {o : Option V} {u : Option Value} (r : RelO o u) : o.isSome = u.isSome := by
  cases o with
  | none => cases u with
    | none => rfl
    | some _ => exact (show False from r).elim
  | some _ => cases u with
    | none => exact (show False from r).elim
    | some _ => rfl
theorem KV.val {kvs : List (κ × V)} {vs : List (κ × Value)} (r : KV kvs vs) (k : κ) : RelO (valV kvs k) (valueAt vs k) := by
  unfold KV at r
  induction r with
  | nil => exact True.intro
  | @cons p q ps qs h t ih =>
    obtain ⟨h1, h2⟩ := h
    by_cases e : p.1 = k
    · have e' : q.1 = k := h1.symm.trans e
      have b : valueAt (q :: qs) k = some q.2 := by simp [valueAt, List.find?_cons, e']
      rw [valV_pos e, b]; exact h2
    · have e' : ¬ q.1 = k := fun z => e (h1.trans z)
      have b : valueAt (q :: qs) k = valueAt qs k := by simp [valueAt, List.find?_cons, e']
      rw [valV_neg e, b]; exact ih
theorem KV.any {kvs : List (κ × V)} {vs : List (κ × Value)} (r : KV kvs vs) (k : κ) : (kvs.any fun kv => decide (kv.1 = k)) = vs.any fun kv => decide (kv.1 = k) := by
  unfold KV at r
  induction r with
  | nil => rfl
  | cons h t ih => rw [List.any_cons, List.any_cons, ih, h.1]
theorem KV.repl {kvs : List (κ × V)} {vs : List (κ × Value)} (r : KV kvs vs) (k : κ) {y : V} {u : Value} (ry : RelV y u) :
    KV (kvs.map fun kv => if kv.1 = k then (kv.1, y) else kv) (vs.map fun kv => if kv.1 = k then (kv.1, u) else kv) := by
  unfold KV at r ⊢
  induction r with
  | nil => exact .nil
  | @cons p q ps qs h t ih =>
    rw [List.map_cons, List.map_cons]
    refine .cons ?_ ih
    obtain ⟨h1, h2⟩ := h
    by_cases e : p.1 = k
    · rw [if_pos e, if_pos (h1.symm.trans e)]; exact ⟨h1, ry⟩
    · rw [if_neg e, if_neg (fun z => e (h1.trans z))]; exact ⟨h1, h2⟩
theorem KV.put {kvs : List (κ × V)} {vs : List (κ × Value)} (r : KV kvs vs) (k : κ) {y : V} {u : Value} (ry : RelV y u) : KV (putK kvs k y) (stored vs k u) := by
  unfold putK stored
  rw [r.any k]
  by_cases e : (vs.any fun kv => decide (kv.1 = k)) = true
  · rw [if_pos e, if_pos e]; exact r.repl k ry
  · rw [if_neg e, if_neg e]; exact Paired.snoc r ⟨rfl, ry⟩
theorem KV.drop {kvs : List (κ × V)} {vs : List (κ × Value)} (r : KV kvs vs) (k : κ) : KV (dropK kvs k) (without vs k) := by
  unfold KV at r ⊢
  unfold dropK without
  induction r with
  | nil => exact .nil
  | @cons p q ps qs h t ih =>
    obtain ⟨h1, h2⟩ := h
    rw [List.filter_cons, List.filter_cons]
    by_cases e : p.1 = k
    · have a : ¬ decide (p.1 ≠ k) = true := by simp [e]
      have b : ¬ decide (q.1 ≠ k) = true := by simp [h1.symm.trans e]
      rw [if_neg a, if_neg b]; exact ih
    · have e' : ¬ q.1 = k := fun z => e (h1.trans z)
      have a : decide (p.1 ≠ k) = true := by simp [e]
      have b : decide (q.1 ≠ k) = true := by simp [e']
      rw [if_pos a, if_pos b]; exact .cons ⟨h1, h2⟩ ih
theorem KV.length {kvs : List (κ × V)} {vs : List (κ × Value)} (r : KV kvs vs) : kvs.length = vs.length := Paired.length r
theorem dropK_le (kvs : List (κ × V)) (k : κ) : (dropK kvs k).length ≤ kvs.length := List.length_filter_le _ _
end
theorem kV_is {P : Program} {w : World} {k : Key} {u : Value} (r : RelV (kV k) u) : (mixKind P w).is k u = true := by
  cases k with
  | inl i => obtain ⟨t, e⟩ := (show ∃ t, u = Value.int i t from r); subst e; exact mixKind_int P w i t
  | inr x => obtain ⟨t, e⟩ := (show ∃ t, u = Value.str x t from r); subst e; exact mixKind_str P w x t
theorem items_are {P : Program} {w : World} : ∀ {ks : List Key} {us : List Value}, Vals (ks.map kV) us → ItemsAre (mixKind P w) ks us
  | [], _, r => by rw [List.map_nil] at r; cases r; exact .nil
  | k :: ks, _, r => by
    rw [List.map_cons] at r
    cases r with
    | cons h t => exact .cons (kV_is h) (items_are t)
abbrev KT (H : Hp) : List (List Key × V) → List (List Key × Addr × Value) → Prop := Paired fun p q => p.1 = q.1 ∧ H q.2.1 = some (.tup (p.1.map kV)) ∧ RelV p.2 q.2.2
theorem KT.val {H : Hp} {kvs : List (List Key × V)} {xs : List (List Key × Addr × Value)} (r : KT H kvs xs) (k : List Key) : RelO (valV kvs k) ((atKey xs k).map (·.2)) := by
  induction r with
  | nil => exact True.intro
  | @cons p q ps qs h t ih =>
    obtain ⟨h1, _, h2⟩ := h
    by_cases e : p.1 = k
    · have e' : q.1 = k := h1.symm.trans e
      have b : atKey (q :: qs) k = some q.2 := by simp [atKey, List.find?_cons, e']
      rw [valV_pos e, b]; exact h2
    · have e' : ¬ q.1 = k := fun z => e (h1.trans z)
      have b : atKey (q :: qs) k = atKey qs k := by simp [atKey, List.find?_cons, e']
      rw [valV_neg e, b]; exact ih
theorem KT.repl {H : Hp} {kvs : List (List Key × V)} {xs : List (List Key × Addr × Value)} (r : KT H kvs xs) (k : List Key) {y : V} {u : Value} (ry : RelV y u) :
    KT H (kvs.map fun kv => if kv.1 = k then (kv.1, y) else kv) (xs.map (putAt k u)) := by
  induction r with
  | nil => exact .nil
  | @cons p q ps qs h t ih =>
    rw [List.map_cons, List.map_cons]
    refine .cons ?_ ih
    obtain ⟨h1, h2, h3⟩ := h
    unfold putAt
    by_cases e : p.1 = k
    · rw [if_pos e, if_pos (h1.symm.trans e)]; exact ⟨h1, h2, ry⟩
    · rw [if_neg e, if_neg (fun z => e (h1.trans z))]; exact ⟨h1, h2, h3⟩
theorem KT.put {H : Hp} {kvs : List (List Key × V)} {xs : List (List Key × Addr × Value)} (r : KT H kvs xs) (k : List Key) {b : Addr} {y : V} {u : Value} (hb : H b = some (.tup (k.map kV))) (ry : RelV y u) :
    KT H (putK kvs k y) (storedH xs k b u) := by
  have e : (kvs.any fun kv => decide (kv.1 = k)) = (atKey xs k).isSome := by
    rw [valV_any, (r.val k).isSome_eq, Option.isSome_map]
  unfold putK storedH
  rw [e]
  by_cases q : (atKey xs k).isSome = true
  · rw [if_pos q, if_pos q]; exact r.repl k ry
  · rw [if_neg q, if_neg q]; exact Paired.snoc r ⟨rfl, hb, ry⟩
theorem KT.keeps {H H' : Hp} {kvs : List (List Key × V)} {xs : List (List Key × Addr × Value)} (r : KT H kvs xs) (ht : ∀ b ys, H b = some (.tup ys) → H' b = some (.tup ys)) : KT H' kvs xs :=
  Paired.mapP r fun _ _ z => ⟨z.1, ht _ _ z.2.1, z.2.2⟩
section
variable {P : Program} {w : World} {H : Hp} {h : Heap} {a : Addr}
theorem rd_of {u : HO} (ok : HOk P w H h) (e : Rd H a u) : ObjOk P w H h a u := e.ok ok
theorem dk_rd {kvs : List (Key × V)} (ok : HOk P w H h) (e : Rd H a (.dK kvs)) : kvs.length ≤ sizeLine ∧ (a == sysModules) = false ∧ ∃ vs, KV kvs vs ∧ h.DictOf (mixKind P w) a vs :=
  show ObjOk P w H h a (.dK kvs) from rd_of ok e
theorem dk_of {kvs : List (Key × V)} (ok : HOk P w H h) (e : H a = some (.dK kvs)) : kvs.length ≤ sizeLine ∧ (a == sysModules) = false ∧ ∃ vs, KV kvs vs ∧ h.DictOf (mixKind P w) a vs := dk_rd ok (.inl e)
theorem key_of {ks : List Key} (ok : HOk P w H h) (e : H a = some (.tup (ks.map kV))) : (tupleKind (mixKind P w)).is h ks a := by
  obtain ⟨_, its, r, o, h1, h2, n, h3⟩ := (show ObjOk P w H h a (.tup (ks.map kV)) from ok a _ e)
  exact ⟨o, its.toArray, n, h1, h2, h3, by simpa using items_are r⟩
theorem dt_rd {kvs : List (List Key × V)} (ok : HOk P w H h) (e : Rd H a (.dT kvs)) : kvs.length ≤ sizeLine ∧ (a == sysModules) = false ∧
    ∃ xs, KT H kvs xs ∧ h.DictOfH (tupleKind (mixKind P w)) a xs := by
  obtain ⟨z, y, xs, r, o, es, ep, h1, h2, h3, h4, h5⟩ := (show ObjOk P w H h a (.dT kvs) from rd_of ok e)
  refine ⟨z, y, xs, r, o, es, ep, h1, h2, h3, h4, fun x hx => ?_, h5⟩
  have all : ∀ {l : List (List Key × V)} {m : List (List Key × Addr × Value)}, KT H l m → ∀ x ∈ m, (tupleKind (mixKind P w)).is h x.1 x.2.1 := by
    intro l m q
    induction q with
    | nil => intro x hx; exact nomatch hx
    | @cons p q ps qs hq t ih =>
      intro x hx
      rcases List.mem_cons.mp hx with e | hx
      · subst e
        exact key_of ok (by rw [← hq.1]; exact hq.2.1)
      · exact ih x hx
  exact all r x hx
theorem dt_of {kvs : List (List Key × V)} (ok : HOk P w H h) (e : H a = some (.dT kvs)) : kvs.length ≤ sizeLine ∧ (a == sysModules) = false ∧
    ∃ xs, KT H kvs xs ∧ h.DictOfH (tupleKind (mixKind P w)) a xs := dt_rd ok (.inl e)
end
def DGet (H : Hp) (a : Addr) (y : V) (r : Option V) : Prop :=
  (∃ kvs k, Rd H a (.dK kvs) ∧ y = kV k ∧ r = valV kvs k) ∨ ∃ kvs k b, Rd H a (.dT kvs) ∧ y = .ref b ∧ H b = some (.tup (k.map kV)) ∧ r = valV kvs k
def DPut (H : Hp) (a : Addr) (y v : V) (H' : Hp) : Prop :=
  (∃ kvs k, H a = some (.dK kvs) ∧ y = kV k ∧ kvs.length < sizeLine ∧ H' = upd H a (.dK (putK kvs k v))) ∨
  ∃ kvs k b, H a = some (.dT kvs) ∧ y = .ref b ∧ H b = some (.tup (k.map kV)) ∧ kvs.length < sizeLine ∧ H' = upd H a (.dT (putK kvs k v))
theorem DGet.k {H : Hp} {a : Addr} {kvs : List (Key × V)} {k : Key} (e : H a = some (.dK kvs)) : DGet H a (kV k) (valV kvs k) := .inl ⟨kvs, k, .inl e, rfl, rfl⟩
theorem DPut.k {H : Hp} {a : Addr} {kvs : List (Key × V)} {k : Key} {v : V} (e : H a = some (.dK kvs)) (hl : kvs.length < sizeLine) : DPut H a (kV k) v (upd H a (.dK (putK kvs k v))) := .inl ⟨kvs, k, e, rfl, hl, rfl⟩
section
variable {X : Cx} {pins : List (Addr × Obj)} {σ : St} {H : Hp} {s : Shared} {a : Addr} {y v : V} {u r : Value} {o : Option V} {A : Around} {E : Value → Shared → Prop}
theorem Inv.big (I : Inv X pins σ H s) : sysModules < s.heap.objs.size := by
  have h : mainGlobals < s.heap.objs.size := (I.mod.glob.keeps I.bk).lt
  exact Nat.lt_trans (by decide) h
theorem d_getItem {Q : Value → Shared → Prop} (hu : A.units + 1 < cLine) (I : Inv X pins σ H s) (g : DGet H a y (some v)) (ry : RelV y u) (h : ∀ w' s', Inv X pins σ H s' → RelV v w' → Q w' s') :
    wpAny (model X.prog X.w) A (getItem (.ref a) u) Q E s := by
  rcases g with ⟨kvs, k, e, ey, l⟩ | ⟨kvs, k, b, e, ey, eb, l⟩
  · subst ey
    obtain ⟨z, hd, vs, rel, dd⟩ := dk_rd I.hok e
    obtain ⟨w', hw, rw'⟩ := RelO.some_of (v := v) (o := valueAt vs k) (by rw [l]; exact rel.val k)
    exact wpAny_getItem_of (kV_is ry) dd.mapOf hw (h w' _ (I.tok _) rw')
  · subst ey
    cases (show u = Value.ref b from ry)
    obtain ⟨z, hd, xs, rel, dd⟩ := dt_rd I.hok e
    obtain ⟨w', hw, rw'⟩ := RelO.some_of (v := v) (o := (atKey xs k).map (·.2)) (by rw [l]; exact rel.val k)
    obtain ⟨p, hp, hp2⟩ := Option.map_eq_some_iff.mp hw
    refine wpAny_getItem_heap (tupleKind_room_in1 hu) (key_of I.hok eb) dd hp ?_
    rw [hp2]
    exact h w' _ (I.tok _) rw'
theorem d_write {h' : Heap} {t' : Nat} {ob : HO} (I : Inv X pins σ H s) (mu : Mut (H a)) (hs : Heap.SameBut a s.heap h') (he : ∃ q, h'.get? a = some q) (new : ObjOk X.prog X.w (upd H a ob) h' a ob) :
    Inv X pins σ (upd H a ob) { s with heap := h', toks := t' } :=
  I.write (x := a) (e := a) mu (.inl rfl) (fun b q hb z => (hs.2 b hb).trans z) he new
theorem dk_new {P : Program} {w : World} {H' : Hp} {h' : Heap} {kvs : List (Key × V)} {vs : List (Key × Value)} (z : kvs.length ≤ sizeLine) (hd : (a == sysModules) = false) (rel : KV kvs vs) (dd : h'.DictOf (mixKind P w) a vs) :
    ObjOk P w H' h' a (.dK kvs) := ⟨z, hd, vs, rel, dd⟩
theorem d_setItem {H' : Hp} {Q : Unit → Shared → Prop} (hu : A.units + 1 < cLine) (I : Inv X pins σ H s) (g : DPut H a y v H') (ry : RelV y u) (rv : RelV v r) (h : ∀ s', Inv X pins σ H' s' → Q () s') :
    wpAny (model X.prog X.w) A (setItem (.ref a) u r) Q E s := by
  rcases g with ⟨kvs, k, e, ey, l, eH⟩ | ⟨kvs, k, b, e, ey, eb, l, eH⟩
  · subst ey eH
    obtain ⟨z, hd, vs, rel, dd⟩ := dk_of I.hok e
    have hz : vs.length ≤ sizeLine := by rw [← rel.length]; exact z
    have hl : (putK kvs k v).length ≤ sizeLine := by have := length_putK kvs k v; omega
    refine wpAny_setItem_pairs (hsz := hz) (kV_is ry) dd fun h' dd' hs => h _ ?_
    have he : ∃ q, h'.get? a = some q := let ⟨q, _, _, hq, _⟩ := dd'; ⟨q, hq⟩
    exact d_write I (by rw [e]; exact True.intro) hs he (dk_new hl hd (rel.put k rv) dd')
  · subst ey eH
    cases (show u = Value.ref b from ry)
    obtain ⟨z, hd, xs, rel, dd⟩ := dt_of I.hok e
    have hz : xs.length ≤ sizeLine := by rw [← Paired.length rel]; exact z
    have hl : (putK kvs k v).length ≤ sizeLine := by have := length_putK kvs k v; omega
    refine wpAny_setItem_heap (hsz := hz) (tupleKind_room_in1 hu) (key_of I.hok eb) dd fun h' dd' hs => h _ ?_
    obtain ⟨q, es, ep, hq, h2, h3, h4, _, h5⟩ := dd'
    refine d_write I (by rw [e]; exact True.intro) hs ⟨q, hq⟩ ⟨hl, hd, _, (rel.put k eb rv).keeps fun c ys ec => ?_, q, es, ep, hq, h2, h3, h4, h5⟩
    rw [upd_ne (ne_of ec e (fun z => nomatch z))]
    exact ec
end
section
variable {X : Cx} {pins : List (Addr × Obj)} {σ : St} {H : Hp} {s : Shared} {a : Addr} {kvs : List (Key × V)} {k : Key} {u : Value} {A : Around} {E : Value → Shared → Prop}
theorem d_pop {v : V} {more : List Value} {Q : Value → Shared → Prop} (I : Inv X pins σ H s) (e : H a = some (.dK kvs)) (ry : RelV (kV k) u) (l : valV kvs k = some v) (hm : more = [] ∨ ∃ x, more = [x])
    (h : ∀ w' s', Inv X pins σ (upd H a (.dK (dropK kvs k))) s' → RelV v w' → Q w' s') : wpAny (model X.prog X.w) A (call (.builtin "dict.pop") (.ref a :: u :: more)) Q E s := by
  obtain ⟨z, hd, vs, rel, dd⟩ := dk_of I.hok e
  obtain ⟨w', hw, rw'⟩ := RelO.some_of (v := v) (o := valueAt vs k) (by rw [← l]; exact rel.val k)
  have hp : (keyPart u).isSome = true := by
    cases k with
    | inl i => obtain ⟨t, q⟩ := (show ∃ t, u = Value.int i t from ry); subst q; rfl
    | inr x => obtain ⟨t, q⟩ := (show ∃ t, u = Value.str x t from ry); subst q; rfl
  have ha : argsOk "dict.pop" ⟨.ref a :: u :: more, []⟩ := by
    rcases hm with q | ⟨x, q⟩
    · subst q; exact PySem.F.args_dict_pop_2 _ _
    · subst q; exact PySem.F.args_dict_pop_3 _ _ _
  refine call_meetsIn PySem.F.slot_dict_pop dd.typeIs PySem.F.entry_dict_pop ha (meets_dict_pop_there (mixKind X.prog X.w) a (kV_is ry) more hm hp)
    ⟨vs, w', dd, by rw [← rel.length]; exact z, hw, fun h' dd' hs => h w' _ ?_ rw'⟩
  have he : ∃ q, h'.get? a = some q := let ⟨q, _, _, hq, _⟩ := dd'; ⟨q, hq⟩
  exact d_write I (by rw [e]; exact True.intro) hs he (dk_new (Nat.le_trans (dropK_le kvs k) z) hd (rel.drop k) dd')
end
def NoSl (i : Expr) : Prop := ∀ ov iv, subscripted i false ov iv = operate [ov, iv] (getItem ov iv)
theorem subD_of {prog : Program} {w : World} {A : Around} {E : Value → Shared → Prop} {s : Shared} {env : Env} {value slice : Expr} {pos : Pos} {T id : String} {Q : Value → Shared → Prop}
    (hl : typeLookup (.type T) "__getitem__" = pure (some (.builtin id))) (hs : NoSl slice)
    (h : wpAny (model prog w) A (eval value env) (fun o s₁ => wpAny (model prog w) A (eval slice env) (fun i s₂ => s₂.TypeIs o T ∧ wpAny (model prog w) A (getItem o i) Q E s₂) E s₁) E s) :
    wpAny (model prog w) A (eval (.Subscript value slice pos) env) Q E s := by
  refine Subscript_ (wpAny_mono h (fun o s₁ h₁ => wpAny_mono h₁ (fun i s₂ h₂ => ?_) fun _ _ x => x) fun _ _ x => x)
  obtain ⟨hT, h₂⟩ := h₂
  unfold subscriptTail
  refine wpAny_bind ?_
  rw [getitemInPython_of_ne hT.not_modules]
  refine wpAny_bind (wpAny_specialOf hT hl ?_)
  have fin : wpAny (model prog w) A (subscripted slice false o i) (fun r s₃ => wpAny (model prog w) A (letTemporaryGo value o r >>= fun _ => pure r) Q E s₃) E s₂ := by
    rw [hs o i]
    exact wpAny_operating (wpAny_mono h₂ (fun r s₃ h₃ => wpAny_bind (wpAny_letTemporaryGo (wpAny_pure h₃))) fun _ _ x => x)
  first
    | exact wpAny_pure (wpAny_bind fin)
    | exact wpAny_bind (wpAny_pure (wpAny_bind fin))
    | exact wpAny_bind fin
theorem dict_typeIs {X : Cx} {pins : List (Addr × Obj)} {σ : St} {H : Hp} {s : Shared} {a : Addr} {y : V} {o : Option V} (I : Inv X pins σ H s) (g : DGet H a y o) : s.TypeIs (.ref a) "dict" := by
  rcases g with ⟨kvs, k, e, _, _⟩ | ⟨kvs, k, b, e, _, _, _⟩
  · obtain ⟨_, _, vs, _, dd⟩ := dk_rd I.hok e
    exact dd.typeIs
  · obtain ⟨_, _, xs, _, dd⟩ := dt_rd I.hok e
    exact dd.typeIs
def tDGet (td ty : TE) : TE := fun σ H Q => td σ H fun x H1 => ty σ H1 fun y H2 => ∃ a v, x = .ref a ∧ DGet H2 a y (some v) ∧ Q v H2
def sDPut (td ty tv : TE) : TS := fun D σ H => tv σ H fun v H1 => td σ H1 fun x H2 => ty σ H2 fun y H3 => ∃ a H4, x = .ref a ∧ DPut H3 a y v H4 ∧ D.nx σ H4
section
variable {X : Cx} {o i e value : Expr} {pos pos' tpos : Pos} {td ty tv : TE}
theorem pe_dget (hu : X.A.units + 1 < cLine) (ho : PE X o td) (hi : PE X i ty) (hs : NoSl i) : PE X (.Subscript o i pos) (tDGet td ty) := by
  intro pins s σ H Q I h
  refine subD_of PySem.F.slot_dict_getitem.lookup hs (thn (ho pins s σ H _ I h) fun u s1 ⟨x, H1, I1, rx, q1⟩ => thn (hi pins s1 σ H1 _ I1 q1) fun iv s2 ⟨y, H2, I2, ry, a, v, ex, g, q2⟩ => ?_)
  subst ex
  obtain rfl : u = Value.ref a := rx
  exact ⟨dict_typeIs I2 g, d_getItem hu I2 g ry fun w' s3 I3 rw' => ⟨v, H2, I3, rw', q2⟩⟩
theorem ps_dput (hu : X.A.units + 1 < cLine) (ho : PE X o td) (hi : PE X i ty) (hv : PE X value tv) (hs : swapsWith value (some (.Subscript o i pos')) pos.line X.env = pure false) :
    PS X (.Assign [.Subscript o i pos'] value pos) (sDPut td ty tv) := by
  intro pins s σ H D I h
  refine wpAny_Assign_Subscript (thn (hv pins s σ H _ I h) fun r s1 ⟨v, H1, I1, rv, q1⟩ => thn (ho pins s1 σ H1 _ I1 q1) fun u s2 ⟨x, H2, I2, rx, q2⟩ => thn (hi pins s2 σ H2 _ I2 q2) fun iv s3 ⟨y, H3, I3, ry, a, H4, ex, g, q3⟩ => ?_) hs
  subst ex
  obtain rfl : u = Value.ref a := rx
  exact d_setItem hu I3 g ry rv fun s4 I4 => ⟨σ, H4, I4, q3⟩
end
theorem dk_empty {P : Program} {w : World} {H : Hp} (h : Heap) (hb : sysModules < h.objs.size) : ObjOk P w H (h.push { cls := .type "dict", data := .dict #[] }) h.objs.size (.dK []) :=
  ⟨Nat.zero_le _, beq_eq_false_iff_ne.mpr (Ne.symm (Nat.ne_of_lt hb)), [], .nil, Heap.DictOf.new h⟩
def tDNewK : TE := fun _ H Q => ∀ p, H p = none → Q (.ref p) (upd H p (.dK []))
section
variable {X : Cx} {pos : Pos}
theorem pe_dnewK : PE X (.Dict [] [] pos) tDNewK := fun pins s σ H Q I h =>
  wpAny_Dict_empty ⟨.ref s.heap.objs.size, _, I.laid (a := s.heap.objs.size) (o := .dK []) (t' := s.toks) (fun _ _ q => Heap.get?_push_of_some _ q) (Nat.le_refl _) (dk_empty s.heap I.big), rfl, h _ (I.hok.fresh (Nat.le_refl _))⟩
end
def tPairs : List (TE × TE) → St → Hp → (List (V × V) → Hp → Prop) → Prop
  | [], _, H, Q => Q [] H
  | (tk, tv) :: r, σ, H, Q => tk σ H fun x H1 => tv σ H1 fun y H2 => tPairs r σ H2 fun ps H3 => Q ((x, y) :: ps) H3
abbrev VV : List (V × V) → List (Value × Value) → Prop := Paired fun p q => RelV p.1 q.1 ∧ RelV p.2 q.2
def PPs (X : Cx) (pos : Pos) (keys : List (Option Expr)) (values : List Expr) (trs : List (TE × TE)) : Prop :=
  ∀ (pins : List (Addr × Obj)) (s : Shared) (σ : St) (H : Hp) (Q : List (V × V) → Hp → Prop), Inv X pins σ H s → tPairs trs σ H Q →
    wpAny (model X.prog X.w) X.A (evalPairs (pairTrees keys values X.env pos)) (fun vs s' => ∃ ps H', Inv X pins σ H' s' ∧ VV ps vs ∧ Q ps H') X.xe s
theorem pps_nil {X : Cx} {pos : Pos} : PPs X pos [] [] [] := fun pins s σ H Q I h => pairTrees_nil_walk ⟨[], H, I, .nil, h⟩
theorem pps_cons {X : Cx} {pos : Pos} {k v : Expr} {ks : List (Option Expr)} {vs : List Expr} {tk tv : TE} {trs : List (TE × TE)} (hk : PE X k tk) (hv : PE X v tv) (hr : PPs X pos ks vs trs) :
    PPs X pos (some k :: ks) (v :: vs) ((tk, tv) :: trs) := fun pins s σ H Q I h =>
  pairTrees_cons_walk (thn (hk pins s σ H _ I h) fun u s1 ⟨x, H1, I1, rx, q1⟩ => thn (hv pins s1 σ H1 _ I1 q1) fun w2 s2 ⟨y, H2, I2, ry, q2⟩ =>
    thn (hr pins s2 σ H2 _ I2 q2) fun ws s3 ⟨ps, H3, I3, rel, q3⟩ => ⟨(x, y) :: ps, H3, I3, .cons ⟨rx, ry⟩ rel, q3⟩)
def mergeK (kvs more : List (Key × V)) : List (Key × V) := more.foldl (fun acc kv => putK acc kv.1 kv.2) kvs
theorem KV.merge : ∀ {more : List (Key × V)} {rs : List (Key × Value)} {kvs : List (Key × V)} {vs : List (Key × Value)}, KV more rs → KV kvs vs → KV (mergeK kvs more) (merged vs rs) := by
  intro more rs kvs vs r
  unfold KV at r
  induction r generalizing kvs vs with
  | nil => intro q; exact q
  | @cons p q ps qs h t ih =>
    intro r0
    have e : KV (putK kvs p.1 p.2) (stored vs q.1 q.2) := by
      have := r0.put p.1 h.2
      rw [← h.1]; exact this
    exact ih e
theorem length_mergeK : ∀ (more kvs : List (Key × V)), (mergeK kvs more).length ≤ kvs.length + more.length
  | [], kvs => by show kvs.length ≤ kvs.length + 0; omega
  | p :: r, kvs => by
    have h1 := length_mergeK r (putK kvs p.1 p.2)
    have h2 := length_putK kvs p.1 p.2
    show (mergeK (putK kvs p.1 p.2) r).length ≤ _
    rw [List.length_cons]; omega
theorem carries_of {P : Program} {w : World} : ∀ {kvs : List (Key × V)} {ws : List (Value × Value)}, VV (kvs.map fun kv => (kV kv.1, kv.2)) ws → ∃ rs, Carries (mixKind P w) ws rs ∧ KV kvs rs
  | [], _, r => by rw [List.map_nil] at r; cases r; exact ⟨[], True.intro, .nil⟩
  | p :: kvs, _, r => by
    rw [List.map_cons] at r
    cases r with
    | @cons a b as bs h t =>
      obtain ⟨rs, c, q⟩ := carries_of (P := P) (w := w) t
      obtain ⟨b1, b2⟩ := b
      exact ⟨(p.1, b2) :: rs, ⟨kV_is h.1, rfl, c⟩, .cons ⟨rfl, h.2⟩ q⟩
def tDisp (trs : List (TE × TE)) : TE := fun σ H Q => ∀ p, H p = none → tPairs trs σ (upd H p (.dK [])) fun ps H2 => H2 p = some (.dK []) ∧ ∃ kvs : List (Key × V), ps = kvs.map (fun kv => (kV kv.1, kv.2)) ∧ kvs.length ≤ 15 ∧ Q (.ref p) (upd H2 p (.dK (mergeK [] kvs)))
theorem pe_disp {X : Cx} {pos : Pos} {keys : List (Option Expr)} {values : List Expr} {trs : List (TE × TE)} (h : PPs X pos keys values trs) (hall : keys.all (·.isSome) = true) (hl : keys.length = values.length) (h0 : keys ≠ [])
    (h15 : keys.length ≤ 15) : PE X (.Dict keys values pos) (tDisp trs) := by
  intro pins s σ H Q I q
  have hn := I.hok.fresh (Nat.le_refl s.heap.objs.size)
  have I1 := I.laid (a := s.heap.objs.size) (o := .dK []) (h' := s.heap.push { cls := .type "dict", data := .dict #[] }) (t' := s.toks) (fun _ _ q => Heap.get?_push_of_some _ q) (Nat.le_refl _) (dk_empty s.heap I.big)
  refine wpAny_Dict_walk (knd := mixKind X.prog X.w) hall hl h0 h15 (thn (h pins _ σ _ _ I1 (q _ hn)) fun ws s2 ⟨ps, H2, I2, rel, e, kvs, ep, lk, q2⟩ => ?_)
  subst ep
  obtain ⟨rs, c, rk⟩ := carries_of (P := X.prog) (w := X.w) rel
  obtain ⟨z, hd, vs0, r0, dd⟩ := dk_of I2.hok e
  cases r0
  refine ⟨rs, c, dd, fun h' dd' hs => ⟨.ref s.heap.objs.size, _, ?_, rfl, q2⟩⟩
  have hz : (mergeK [] kvs).length ≤ sizeLine := by
    have h1 := length_mergeK kvs []
    rw [List.length_nil] at h1
    rw [sizeLine_eq]; omega
  have he : ∃ q, h'.get? s.heap.objs.size = some q := let ⟨q, _, _, hq, _⟩ := dd'; ⟨q, hq⟩
  exact d_write I2 (by rw [e]; exact True.intro) hs he (dk_new hz hd (rk.merge .nil) dd')
structure M1 (X : Cx) (o : Expr) (m : Str) (apos : Pos) (e : Expr) (cpos : Pos) : Prop where
  base : attributeBase o m X.env (eval o X.env) = eval o X.env
  few : ((backTo cpos (starEach [e] X.env)).all (fun x => !x.1) && (backToKw cpos (keywordEach [] X.env)).all (fun x => x.1.isSome)
    && decide (([e] : List Expr).length + ([] : List Keyword).length + (if ([] : List Keyword).isEmpty then 0 else 1) < 30)) = true
  line : (apos.endLine == cpos.line) = true
  trees : backTo cpos (starEach [e] X.env) = [(false, eval e X.env)]
def IsD (H : Hp) (a : Addr) : Prop := (∃ kvs, Rd H a (.dK kvs)) ∨ ∃ kvs, Rd H a (.dT kvs)
theorem isD_at {X : Cx} {pins : List (Addr × Obj)} {σ : St} {H : Hp} {s : Shared} {a : Addr} (I : Inv X pins σ H s) (d : IsD H a) :
    s.TypeIs (.ref a) "dict" ∧ (∀ b, Value.ref a = .ref b → ∃ ob, s.heap.get? b = some ob ∧ ob.dict = none) ∧ (a == sysModules) = false := by
  rcases d with ⟨kvs, e⟩ | ⟨kvs, e⟩
  · obtain ⟨_, hd, vs, _, dd⟩ := dk_rd I.hok e
    refine ⟨dd.typeIs, fun b q => ?_, hd⟩
    cases q
    obtain ⟨ob, _, _, h1, h2, _⟩ := dd
    exact ⟨ob, h1, h2.2.1⟩
  · obtain ⟨_, hd, xs, _, dd⟩ := dt_rd I.hok e
    refine ⟨dd.typeIs, fun b q => ?_, hd⟩
    cases q
    obtain ⟨ob, _, _, h1, h2, _⟩ := dd
    exact ⟨ob, h1, h2.2.1⟩
section
variable {X : Cx} {pins : List (Addr × Obj)} {σ : St} {H : Hp} {s : Shared} {a : Addr} {y d : V} {u r : Value} {o : Option V} {A : Around} {E : Value → Shared → Prop}
end
def tDPop1 (td ty : TE) : TE := fun σ H Q => td σ H fun x H1 => ∃ a, x = .ref a ∧ IsD H1 a ∧ ty σ H1 fun y H2 => ∃ kvs k v, H2 a = some (.dK kvs) ∧ y = kV k ∧ valV kvs k = some v ∧ Q v (upd H2 a (.dK (dropK kvs k)))
section
variable {X : Cx} {o e f : Expr} {apos cpos : Pos} {td ty tx : TE}
theorem pe_dpop1 (ho : PE X o td) (he : PE X e ty) (m : M1 X o "pop" apos e cpos) : PE X (.Call (.Attribute o "pop" apos) [e] [] cpos) (tDPop1 td ty) := by
  intro pins s σ H Q I h
  refine wpAny_Call_method m.base m.few m.line PySem.F.plainAttrs_dict PySem.F.slot_dict_pop PySem.F.type_dict_pop (thn (ho pins s σ H _ I h) fun u s1 ⟨x, H1, I1, rx, a, ex, d, q1⟩ => ?_)
  subst ex
  obtain rfl : u = Value.ref a := rx
  obtain ⟨t1, t2, _⟩ := isD_at I1 d
  refine ⟨t1, t2, ?_⟩
  rw [m.trees]
  refine Calls.callWith_builtin rfl (Calls.evalArgs_plain (Calls.spliced_cons (thn (he pins s1 σ H1 _ I1 q1) fun iv s2 ⟨y, H2, I2, ry, kvs, k, v, ea, ey, l, q2⟩ => Calls.spliced_nil ?_)))
  subst ey
  exact d_pop I2 ea ry l (.inl rfl) fun w' s3 I3 rw' => ⟨v, _, I3, rw', q2⟩
end
section
variable {X : Cx} {pins : List (Addr × Obj)} {σ : St} {H : Hp} {s : Shared} {a : Addr} {kvs : List (Key × V)} {A : Around} {E : Value → Shared → Prop}
end
section
variable {X : Cx} {pins : List (Addr × Obj)} {σ : St} {H : Hp} {s : Shared} {a : Addr} {y : V} {u : Value} {A : Around} {E : Value → Shared → Prop}
end
end L2
namespace L2
open PySem PySem.Spec PyProof.Rows
section
variable {X : Cx}
end
section
variable {κ : Type} [DecidableEq κ]
theorem valV_not {kvs : List (κ × V)} {k : κ} (h : valV kvs k = none) : ¬ k ∈ kvs.map (·.1) := by
  intro m
  obtain ⟨p, hp, e⟩ := List.mem_map.mp m
  have q : (kvs.any fun kv => decide (kv.1 = k)) = true := List.any_eq_true.mpr ⟨p, hp, decide_eq_true e⟩
  rw [valV_any, h] at q
  exact absurd q (by simp)
theorem nd_snoc : ∀ {l : List κ} {k : κ}, l.Nodup → ¬ k ∈ l → (l ++ [k]).Nodup
  | [], k, _, _ => by simp
  | a :: r, k, h, hk => by
    obtain ⟨h1, h2⟩ := List.nodup_cons.mp h
    show (a :: (r ++ [k])).Nodup
    refine List.nodup_cons.mpr ⟨fun m => ?_, nd_snoc h2 fun m => hk (List.mem_cons.mpr (Or.inr m))⟩
    rcases List.mem_append.mp m with q | q
    · exact h1 q
    · exact hk (List.mem_cons.mpr (Or.inl (List.mem_singleton.mp q).symm))
theorem nd_putK {kvs : List (κ × V)} {k : κ} (v : V) (hn : (kvs.map (·.1)).Nodup) (h : valV kvs k = none) : ((putK kvs k v).map (·.1)).Nodup := by
  rw [putK_new v h, List.map_append]
  exact nd_snoc hn (valV_not h)
theorem dropK_pos {p : κ × V} {r : List (κ × V)} {k : κ} (e : p.1 = k) : dropK (p :: r) k = dropK r k := by
  unfold dropK
  rw [List.filter_cons, if_neg (by simp [e])]
theorem dropK_neg {p : κ × V} {r : List (κ × V)} {k : κ} (e : ¬ p.1 = k) : dropK (p :: r) k = p :: dropK r k := by
  unfold dropK
  rw [List.filter_cons, if_pos (by simp [e])]
theorem dropK_no : ∀ {kvs : List (κ × V)} {k : κ}, ¬ k ∈ kvs.map (·.1) → dropK kvs k = kvs
  | [], _, _ => rfl
  | p :: r, k, h => by
    have h' : ¬ k ∈ r.map (·.1) := fun m => by
      obtain ⟨q, hq, e⟩ := List.mem_map.mp m
      exact h (List.mem_map.mpr ⟨q, List.mem_cons.mpr (Or.inr hq), e⟩)
    rw [dropK_neg fun e => h (List.mem_map.mpr ⟨p, List.mem_cons.mpr (Or.inl rfl), e⟩), dropK_no h']
theorem dropK_mem {kvs : List (κ × V)} {k : κ} {p : κ × V} (h : p ∈ dropK kvs k) : p ∈ kvs := (List.mem_filter.mp h).1
theorem nd_dropK : ∀ {kvs : List (κ × V)} {k : κ}, (kvs.map (·.1)).Nodup → ((dropK kvs k).map (·.1)).Nodup
  | [], _, _ => List.nodup_nil
  | p :: r, k, h => by
    have h : (p.1 :: r.map (·.1)).Nodup := h
    obtain ⟨h1, h2⟩ := List.nodup_cons.mp h
    by_cases e : p.1 = k
    · rw [dropK_pos e]
      exact nd_dropK h2
    · rw [dropK_neg e]
      show (p.1 :: (dropK r k).map (·.1)).Nodup
      refine List.nodup_cons.mpr ⟨fun m => h1 ?_, nd_dropK h2⟩
      obtain ⟨q, hq, eq⟩ := List.mem_map.mp m
      exact List.mem_map.mpr ⟨q, dropK_mem hq, eq⟩
theorem dropK_len : ∀ {kvs : List (κ × V)} {k : κ}, (kvs.map (·.1)).Nodup → k ∈ kvs.map (·.1) → (dropK kvs k).length + 1 = kvs.length
  | [], _, _, m => by simp at m
  | p :: r, k, h, m => by
    have h : (p.1 :: r.map (·.1)).Nodup := h
    have m : k = p.1 ∨ k ∈ r.map (·.1) := List.mem_cons.mp m
    obtain ⟨h1, h2⟩ := List.nodup_cons.mp h
    by_cases e : p.1 = k
    · subst e
      rw [dropK_pos rfl, dropK_no h1]
      all_goals rfl
    · have m' : k ∈ r.map (·.1) := m.resolve_left fun z => e z.symm
      have q := dropK_len h2 m'
      rw [dropK_neg e, List.length_cons, List.length_cons]
      omega
end
end L2

set_option maxHeartbeats 4000000
namespace L2
open PySem
def FlyT (h : Heap) (a : Addr) (cls : Value) (dct : Option Addr) (hd : Value) : Prop :=
  ∃ oe vs, h.get? a = some oe ∧ oe.cls = cls ∧ oe.dict = dct ∧ oe.data = .fields vs ∧ vs[1]? = some hd ∧
    (hd = .none ∨ ∃ T oT ts, hd = .ref T ∧ T ≠ a ∧ h.get? T = some oT ∧ oT.data = .fields ts ∧ ts[3]? = some .none)
theorem dict_mapF (o : Obj) (f : Array Value → Array Value) : (o.mapFields f).dict = o.dict := by
  obtain ⟨c, d, dt, sl⟩ := o
  cases dt <;> rfl
section
variable {M : Model} {A : Around} {E : Value → Shared → Prop} {s : Shared}
theorem fly_entry {base : Heap} {env : Env} {outer : List Env} {L a : Addr} {oe : Obj} {vs : Array Value} {hd : Value} {b : Bool} {Q : Unit → Shared → Prop}
    (hfr : A.frames = some (env :: outer)) (hl : s.heap.FunFrames base (env :: outer)) (hf : env.frame = some L) (he : s.heap.get? a = some oe) (hdt : oe.data = .fields vs) (h1 : 1 < vs.size)
    (h : ∀ (h' : Heap) (T : Addr), s.heap.get? T = none → T ≠ a → (∀ b o, b ≠ a → b ∉ (env :: outer).filterMap (·.frame) → s.heap.get? b = some o → h'.get? b = some o) →
      (∀ b o, b ≠ a → s.heap.get? b = some o → ∃ sl, h'.get? b = some { o with slots := sl }) → FlyT h' a oe.cls oe.dict (.ref T) → Q () { s with heap := h' }) :
    wpAny M A (do setField (.ref a) 1 (← EntryCells.newEntry hd (← frameOf env) .none (rawInt L) .none (← entryPlaceOf L b))) (fun _ s' => wpAny M A (setFlight (.ref a) none) Q E s') E s := by
  have na : a ∉ (env :: outer).filterMap (·.frame) := fun hm => by
    obtain ⟨_, o, ho, hn⟩ := hl.mem hm
    rw [he] at ho; cases ho
    exact hn vs hdt
  refine wpAny_bind (wpAny_frameOf_fun hfr hl hf fun h₁ hs => ?_)
  refine wpAny_bind (wpAny_entryPlaceOf fun pl hpl => ?_)
  unfold EntryCells.newEntry newFields
  refine wpAny_bind (wpAny_newObj_type ?_ (hpl.sizeOk5 _ _ _ _ _))
  generalize hts : ([hd, Value.ref L, Value.none, rawInt L, Value.none] ++ (if pl.isEmpty then List.replicate 6 Value.none else pl)).toArray = ts
  have hsz : 3 < ts.size := by
    rw [← hts]
    simp only [List.size_toArray, List.length_append, List.length_cons, List.length_nil]
    omega
  have e1 : h₁.get? a = some oe := (hs.2.1 a na).trans he
  have lt1 : h₁.objs.size ≠ a := Nat.ne_of_gt (Heap.lt_size e1)
  have e2 : (h₁.push { cls := .type "traceback", dict := none, data := .fields ts }).get? a = some oe := Heap.get?_push_of_some _ e1
  refine wpAny_setField e2 hdt h1 ?_
  have d3 := Obj.data_mapFields hdt (·.setIfInBounds 1 (Value.ref h₁.objs.size))
  have e3 := Heap.get?_update_self (Obj.mapFields (·.setIfInBounds 1 (Value.ref h₁.objs.size))) e2 (Obj.isFreed_of_fields d3)
  have t3 : ((h₁.push { cls := .type "traceback", dict := none, data := .fields ts }).update a (Obj.mapFields (·.setIfInBounds 1 (Value.ref h₁.objs.size)))).get? h₁.objs.size = some { cls := .type "traceback", dict := none, data := .fields ts } := by
    rw [Heap.get?_update_other _ _ (Ne.symm lt1)]
    exact Heap.get?_push_size h₁ rfl
  unfold setFlight
  refine wpAny_bind (wpAny_field e3 d3 (x := .ref h₁.objs.size) (by simp [h1]) ?_)
  rw [if_pos (show (Value.ref h₁.objs.size != Value.none) = true by simp)]
  refine wpAny_setField t3 rfl hsz ?_
  have keep : ∀ b o, b ≠ a → h₁.get? b = some o → (((h₁.push { cls := .type "traceback", dict := none, data := .fields ts }).update a (Obj.mapFields (·.setIfInBounds 1 (Value.ref h₁.objs.size)))).update h₁.objs.size
      (Obj.mapFields (·.setIfInBounds 3 ((none : Option Addr).elim Value.none fun f => rawInt f)))).get? b = some o := fun b o nb e => by
    rw [Heap.get?_update_other _ _ (Nat.ne_of_gt (Heap.lt_size e)), Heap.get?_update_other _ _ (Ne.symm nb)]
    exact Heap.get?_push_of_some _ e
  refine h _ h₁.objs.size ?_ lt1 (fun b o nb nf e => keep b o nb ((hs.2.1 b nf).trans e)) (fun b o nb e => ?_) ?_
  · rw [hs.1]
    exact Heap.get?_none_of_le (Nat.le_refl _)
  · obtain ⟨sl, q⟩ := hs.2.2 b o e
    exact ⟨sl, keep b _ nb q⟩
  · refine ⟨_, _, ?_, Obj.cls_mapFields oe (·.setIfInBounds 1 (Value.ref h₁.objs.size)), dict_mapF oe (·.setIfInBounds 1 (Value.ref h₁.objs.size)), d3, by simp [h1], .inr ⟨h₁.objs.size, _, _, rfl, lt1,
      Heap.get?_update_self _ t3 (Obj.isFreed_of_fields (Obj.data_mapFields rfl _)), Obj.data_mapFields rfl _, by simp [hsz]⟩⟩
    rw [Heap.get?_update_other _ _ lt1]
    exact e3
theorem fly_note {base : Heap} {env : Env} {outer : List Env} {L a : Addr} {cls hd : Value} {dct : Option Addr} {Q : Unit → Shared → Prop}
    (hfr : A.frames = some (env :: outer)) (hl : s.heap.FunFrames base (env :: outer)) (hf : env.frame = some L) (hx : FlyT s.heap a cls dct hd)
    (h : ∀ (h' : Heap) (T : Addr), s.heap.get? T = none → T ≠ a → (∀ b o, b ≠ a → hd ≠ .ref b → b ∉ (env :: outer).filterMap (·.frame) → s.heap.get? b = some o → h'.get? b = some o) →
      (∀ b o, b ∈ (env :: outer).filterMap (·.frame) → s.heap.get? b = some o → ∃ sl, h'.get? b = some { o with slots := sl }) → FlyT h' a cls dct (.ref T) → Q () { s with heap := h' }) :
    wpAny M A (noteFrame (.ref a) env) (fun _ s' => wpAny M A (setFlight (.ref a) none) Q E s') E s := by
  obtain ⟨oe, vs, he, rfl, rfl, hdt, h1, hc⟩ := hx
  have fr : ∀ b o, b ∈ (env :: outer).filterMap (·.frame) → s.heap.get? b = some o → ∀ ws, o.data ≠ .fields ws := fun b o hb e => by
    obtain ⟨_, o', ho, hn⟩ := hl.mem hb
    rw [e] at ho; cases ho
    exact hn
  have na : ∀ b o, b ∈ (env :: outer).filterMap (·.frame) → s.heap.get? b = some o → b ≠ a := fun b o hb e z => by
    subst z
    rw [e] at he; cases he
    exact fr _ _ hb e vs hdt
  have z1 := (Array.getElem?_eq_some_iff.mp h1).1
  unfold noteFrame
  simp only [hf]
  refine wpAny_bind (wpAny_field he hdt h1 ?_)
  rcases hc with rfl | ⟨T, oT, ts, rfl, hTa, hT, hTd, h3⟩
  · rw [if_neg (by decide)]
    refine fly_entry hfr hl hf he hdt z1 fun h' T' n1 n2 k1 k2 fl => h h' T' n1 n2 (fun b o nb _ nf e => k1 b o nb nf e) (fun b o hb e => k2 b o (na b o hb e) e) fl
  · rw [if_pos (show (Value.ref T != Value.none) = true by simp)]
    refine wpAny_bind (wpAny_field hT hTd h3 ?_)
    rw [if_neg (show ¬ ((Value.none == rawInt L) = true) by simp [rawInt])]
    refine wpAny_bind (wpAny_setField hT hTd (Array.getElem?_eq_some_iff.mp h3).1 ?_)
    have oth : ∀ b, b ≠ T → (s.heap.update T (Obj.mapFields (·.setIfInBounds 3 Value.none))).get? b = s.heap.get? b := fun b nb => Heap.get?_update_other _ _ (Ne.symm nb)
    have fT : ∀ b o, s.heap.get? b = some o → (∀ ws, o.data ≠ .fields ws) → b ≠ T := fun b o e hn z => by
      rw [z, hT] at e; cases e
      exact hn ts hTd
    refine fly_entry (s := { s with heap := s.heap.update T (Obj.mapFields (·.setIfInBounds 3 Value.none)) }) hfr (hl.of_keeps fun b o e hn => ⟨o, (oth b (fT b o e hn)).trans e, rfl⟩) hf ((oth a (Ne.symm hTa)).trans he) hdt z1
      fun h' T' n1 n2 k1 k2 fl => h h' T' ?_ n2 (fun b o nb nT nf e => k1 b o nb nf ((oth b (fun z => nT (by rw [z]))).trans e)) (fun b o hb e => k2 b o (na b o hb e) ((oth b (fT b o e (fr b o hb e))).trans e)) fl
    cases q : s.heap.get? T' with
    | none => rfl
    | some o =>
      by_cases z : T' = T
      · subst z
        have := Heap.get?_update_self (Obj.mapFields (·.setIfInBounds 3 Value.none)) hT (Obj.isFreed_of_fields (Obj.data_mapFields hTd _))
        rw [this] at n1; cases n1
      · have n1' : (s.heap.update T (Obj.mapFields (·.setIfInBounds 3 Value.none))).get? T' = none := n1
        rw [oth T' z, q] at n1'; cases n1'
theorem fly_leave {base : Heap} {env : Env} {outer : List Env} {L a : Addr} {cls hd : Value} {dct : Option Addr} {Q : Unit → Shared → Prop}
    (hfr : A.frames = some (env :: outer)) (hl : s.heap.FunFrames base (env :: outer)) (hf : env.frame = some L) (hx : FlyT s.heap a cls dct hd)
    (h : ∀ (h' : Heap) (T : Addr), s.heap.get? T = none → T ≠ a → (∀ b o, b ≠ a → hd ≠ .ref b → b ∉ (env :: outer).filterMap (·.frame) → s.heap.get? b = some o → h'.get? b = some o) →
      (∀ b o, b ∈ (env :: outer).filterMap (·.frame) → s.heap.get? b = some o → ∃ sl, h'.get? b = some { o with slots := sl }) → FlyT h' a cls dct (.ref T) → Q () { s with heap := h' }) :
    wpAny M A (leaving env (.ref a)) Q E s := by
  unfold leaving
  exact wpAny_bind (fly_note hfr hl hf hx h)
theorem fly_rest {a T : Addr} {cls : Value} {dct : Option Addr} {Q : Unit → Shared → Prop} (hx : FlyT s.heap a cls dct (.ref T))
    (h : ∀ h', (∀ b o, b ≠ T → s.heap.get? b = some o → h'.get? b = some o) → FlyT h' a cls dct (.ref T) → Q () { s with heap := h' }) : wpAny M A (setFlight (.ref a) none) Q E s := by
  obtain ⟨oe, vs, he, rfl, rfl, hdt, h1, hc⟩ := hx
  rcases hc with z | ⟨T', oT, ts, z, hTa, hT, hTd, h3⟩
  · cases z
  · cases z
    unfold setFlight
    refine wpAny_bind (wpAny_field he hdt h1 ?_)
    rw [if_pos (show (Value.ref T != Value.none) = true by simp)]
    have z3 := (Array.getElem?_eq_some_iff.mp h3).1
    have oth : ∀ b, b ≠ T → (s.heap.update T (Obj.mapFields (·.setIfInBounds 3 ((none : Option Addr).elim Value.none fun f => rawInt f)))).get? b = s.heap.get? b := fun b nb => Heap.get?_update_other _ _ (Ne.symm nb)
    refine wpAny_setField hT hTd z3 (h _ (fun b o nb e => (oth b nb).trans e) ⟨oe, vs, (oth a (Ne.symm hTa)).trans he, rfl, rfl, hdt, h1, .inr ⟨T, _, _, rfl, hTa, Heap.get?_update_self _ hT (Obj.isFreed_of_fields (Obj.data_mapFields hTd _)), Obj.data_mapFields hTd _, ?_⟩⟩)
    simp [z3]
end
end L2

set_option maxHeartbeats 4000000
namespace L2
open PySem PySem.Spec PyProof.Rows
def Flies (h0 h : Heap) (H : Hp) (a : Addr) (cls : Value) (dct : Option Addr) : Prop :=
  ∃ hd, FlyT h a cls dct hd ∧ H a = none ∧ h0.get? a = none ∧ ∀ T, hd = .ref T → H T = none ∧ h0.get? T = none
def CXE (P : Program) (w : World) : CXT := fun outer H s E e s' => ∃ a cls dct H', e = .ref a ∧ s'.os = s.os ∧ AllBare s'.gens ∧ Un (frs outer) [] H H' s.heap s'.heap ∧ HOk P w H' s'.heap ∧ Flies s.heap s'.heap H' a cls dct ∧ E cls dct H'
theorem ObjOk.there {P : Program} {w : World} {H : Hp} {h : Heap} {a : Addr} {o : HO} (x : ObjOk P w H h a o) : ∃ ob, h.get? a = some ob := by
  cases o with
  | lst xs => obtain ⟨_, _, _, _, e⟩ := x; exact ⟨_, e⟩
  | tup xs => obtain ⟨_, _, _, ob, e, _⟩ := x; exact ⟨_, e⟩
  | dK kvs => obtain ⟨_, _, _, _, o, _, _, e, _⟩ := x; exact ⟨_, e⟩
  | dT kvs => obtain ⟨_, _, _, _, o, _, _, e, _⟩ := x; exact ⟨_, e⟩
  | set S n => obtain ⟨o, _, _, _, e, _⟩ := x; exact ⟨_, e⟩
  | ins C dx fs => obtain ⟨_, _, _, e, _⟩ := x; exact ⟨_, e⟩
  | own y => exact x
  | xd fs => obtain ⟨_, ⟨_, _, _, e, _⟩, _⟩ := x; exact ⟨_, e⟩
  | rng lo hi => obtain ⟨_, _, _, e⟩ := x; exact ⟨_, e⟩
  | frz ob u => obtain ⟨e, _⟩ := x; exact ⟨_, e⟩
  | tbl ps => exact ⟨_, (show h.get? a = some _ from x)⟩
  | met f y => exact ⟨_, (show h.get? a = some _ from x)⟩
  | ext φ => obtain ⟨_, e, _⟩ := x; exact e
theorem frs_sub {env : Env} {l : List Env} {b : Addr} (hb : b ∈ frs l) : b ∈ frs (env :: l) := by
  unfold frs at *
  rw [List.filterMap_cons]
  cases env.frame with
  | none => exact hb
  | some L => exact List.mem_cons_of_mem _ hb
section
variable {X : Cx} {pins : List (Addr × Obj)} {σ : St} {H H' : Hp} {s : Shared} {h' : Heap} {a T : Addr} {cls hd : Value} {dct : Option Addr}
theorem s0_none (I : Inv X pins σ H s) (hex : X.ex = []) (n : s.heap.get? a = none) : X.s₀.heap.get? a = none := by
  cases e : X.s₀.heap.get? a with
  | none => rfl
  | some o =>
    obtain ⟨o1, e1⟩ := I.base.there a o e (by rw [hex]; simp)
    rw [n] at e1; cases e1
theorem hok_fly (I : Inv X pins σ H s) (keep : ∀ b o, b ≠ a → hd ≠ .ref b → b ∉ frs X.stack → s.heap.get? b = some o → h'.get? b = some o) (ha : H a = none) (hT : ∀ T, hd = .ref T → H T = none) : HOk X.prog X.w H h' := fun b u e => by
  have tr : ∀ c v, H c = some v → c ≠ a ∧ hd ≠ .ref c ∧ c ∉ frs X.stack := fun c v q => ⟨ne_of_none q ha, fun z => (by rw [hT c z] at q; cases q), fun z => (by rw [I.stkFree c z] at q; cases q)⟩
  refine (I.hok b u e).stay (fun c v hc q => ?_) (fun _ q => q) fun _ _ q => q
  obtain ⟨z, hz⟩ : ∃ v, H c = some v := by
    rcases hc with rfl | hc
    · exact ⟨_, e⟩
    · exact ⟨_, hc⟩
  exact keep c v (tr c z hz).1 (tr c z hz).2.1 (tr c z hz).2.2 q
theorem h_none (I : Inv X pins σ H s) (n : s.heap.get? T = none) : H T = none := by
  cases q : H T with
  | none => rfl
  | some u =>
    obtain ⟨ob, e⟩ := (I.hok T u q).there
    rw [n] at e; cases e
theorem left_ok (I : Inv X pins σ H s) (hex : X.ex = []) (hst : X.stack = X.env :: X.outer) (ha : H a = none) (na : X.s₀.heap.get? a = none) (hT : ∀ T, hd = .ref T → H T = none ∧ X.s₀.heap.get? T = none)
    (nT : s.heap.get? T = none) (keep : ∀ b o, b ≠ a → hd ≠ .ref b → b ∉ frs X.stack → s.heap.get? b = some o → h'.get? b = some o)
    (slot : ∀ b o, b ∈ frs X.stack → s.heap.get? b = some o → ∃ sl, h'.get? b = some { o with slots := sl }) (fl : FlyT h' a cls dct (.ref T)) :
    Un (frs X.outer) [] X.H₀ H X.s₀.heap h' ∧ HOk X.prog X.w H h' ∧ Flies X.s₀.heap h' H a cls dct := by
  have s0a : ∀ b o, X.s₀.heap.get? b = some o → b ≠ a ∧ hd ≠ .ref b := fun b o e => ⟨fun z => (by rw [z, na] at e; cases e), fun z => (by rw [(hT b z).2] at e; cases e)⟩
  have s0L : ∀ b o, X.s₀.heap.get? b = some o → b ∈ frs X.stack → b ∈ frs X.outer := fun b o e hb => by
    rcases List.mem_cons.mp (I.stkSub b hb) with z | z
    · rw [z] at e
      exact absurd (Nat.lt_of_lt_of_le (Heap.lt_size e) I.ok.above) (Nat.lt_irrefl _)
    · exact z
  have noex : ∀ b : Addr, b ∉ X.ex := fun b => by rw [hex]; simp
  refine ⟨⟨fun b o e n hb _ => ?_, fun b o e n hb _ => ?_, fun b o e n _ => I.base.free b o e n (noex b), fun b o e _ => ?_, I.base.tups, I.base.frzs, I.base.tbls⟩, hok_fly I keep ha fun T z => (hT T z).1, ?_⟩
  · exact keep b o (s0a b o e).1 (s0a b o e).2 (fun z => hb (s0L b o e z)) (I.base.keep b o e n hb (noex b))
  · obtain ⟨sl, e1⟩ := I.base.slot b o e n hb (noex b)
    obtain ⟨sl', e2⟩ := slot b _ (by rw [hst]; exact frs_sub hb) e1
    exact ⟨sl', e2⟩
  · obtain ⟨o1, e1⟩ := I.base.there b o e (noex b)
    by_cases hb : b ∈ frs X.stack
    · obtain ⟨sl, e2⟩ := slot b o1 hb e1
      exact ⟨_, e2⟩
    · exact ⟨_, keep b o1 (s0a b o e).1 (s0a b o e).2 hb e1⟩
  · exact ⟨.ref T, fl, ha, na, fun T' z => by cases z; exact ⟨h_none I nT, s0_none I hex nT⟩⟩
def PassesX (CX : CXT) (X : Cx) (E : St → XK) : Prop := ∀ (pins : List (Addr × Obj)) (σ : St) (H : Hp) (s : Shared) (e : Value) (s' : Shared), Inv X pins σ H s → CX X.stack H s (E σ) e s' → X.xe e s'
end
section
variable {P : Program} {w : World} {K : PySem.W.Frag} {mg : Str → Option Value} {base : Heap} {N : List Str} {qual : Str} {scope : Scope} {f : Addr} {cd : Value} {A : Around} {outer : List Env} {s : Shared} {H : Hp} {E : XK}
theorem pass_def : PassesX (CXE P w) (cxOf (CXE P w) P w K mg base N qual scope f cd A outer s H E) (fun _ => E) := by
  intro pins σ H1 s1 e s2 I hx
  obtain ⟨a, cls, dct, H2, he, hos, hg, un, hok, ⟨hd, fl, ha, na, hT⟩, q⟩ := hx
  subst he
  have I2 : Inv (cxOf (CXE P w) P w K mg base N qual scope f cd A outer s H E) pins σ H2 s2 := I.call' hos un hok hg (fun b z => absurd z (by simp))
  show wpAny _ _ (leaving _ (.ref a)) _ _ s2
  refine fly_leave (env := envOfC qual scope s.heap.objs.size f cd) (outer := outer) I.ok.frames I2.stack rfl fl fun h' T n1 n2 k1 k2 fl' => ?_
  obtain ⟨y1, y2, y3⟩ := left_ok I2 rfl rfl ha (s0_none I rfl na) (fun T z => ⟨(hT T z).1, s0_none I rfl (hT T z).2⟩) n1 k1 k2 fl'
  exact ⟨a, cls, dct, H2, rfl, I2.os, I2.bare, y1, y2, y3, q⟩
theorem own_def : PassesOwn (model P w) (A.deeper (envOfC qual scope s.heap.objs.size f cd)) (envOfC qual scope s.heap.objs.size f cd) (cxOf (CXE P w) P w K mg base N qual scope f cd A outer s H E).xe := PassesOwn.leaving
end
section
variable {P : Program} {w : World} {K : PySem.W.Frag} {mg : Str → Option Value} {base : Heap}
end
def tCallX (sp : Sp) (dvs : List V) (E : St → XK) (t : TA) : TE := fun σ H Q => t σ H fun vs H1 => sp (vs ++ dvs) H1 Q (E σ)
def tMethX (C : Addr) (m : Str) (sp : Sp) (dvs : List V) (E : St → XK) (ta : TE) (t : TA) : TE := fun σ H Q => ta σ H fun x H1 => ∃ a dx fs, x = .ref a ∧ H1 a = some (.ins C dx fs) ∧ fs.lookup m = none ∧
  t σ H1 fun vs H2 => sp (x :: (vs ++ dvs)) H2 Q (E σ)
def tMakeX (C : Addr) (sp : Sp) (dvs : List V) (E : St → XK) (t : TA) : TE := fun σ H Q => t σ H fun vs H1 => ∀ x dx, H1 x = none → H1 dx = none → dx ≠ x →
  sp (.ref x :: (vs ++ dvs)) (upd (upd H1 dx (.own x)) x (.ins C dx [])) (fun v H2 => v = .non ∧ Q (.ref x) H2) (E σ)
section
variable {X : Cx} {CX : CXT} {k : Nat} {f C : Addr} {fd : FuncData} {ps : List Str} {sp : Sp} {dvs : List V} {ds : List Value} {E : St → XK} {x m : Str} {p pos apos : Pos} {e o : Expr} {es : List Expr} {ta : TE} {t : TA}
theorem run_fnX {pins : List (Addr × Obj)} {σ : St} {H : Hp} {s : Shared} {Q : VK} {us : List Value} {vs : List V} (F : FnOk X.prog X.w X.K X.mg X.base CX k f fd ps sp) (hr : Room k X.A) (hb : Binds X.K fd ps ds) (hd : Vals dvs ds) (hx : PassesX CX X E)
    (I : Inv X pins σ H s) (r : Vals vs us) (h : sp (vs ++ dvs) H Q (E σ)) : wpAny (model X.prog X.w) X.A (call (.ref f) us) (EP X pins σ Q) X.xe s := by
  have r2 : Vals (vs ++ dvs) (us ++ ds) := r.append hd
  have hl : (us ++ ds).length = ps.length := by rw [← r2.length]; exact F.len _ _ _ _ h
  refine wpAny_call (codeAny_mono (F.run X.A X.stack s H ⟨us, []⟩ (us ++ ds) (vs ++ dvs) Q (E σ) hr I.env0 (hb s us I.kIn hl) r2 h) fun r s' hq => ?_)
  cases r with
  | error e => exact hx pins σ H s e s' I hq
  | ok fl =>
    cases fl with
    | ret u => exact I.after hq
    | next => exact False.elim hq
    | brk => exact False.elim hq
    | cont => exact False.elim hq
theorem pe_callX (F : FnOk X.prog X.w X.K X.mg X.base CX k f fd ps sp) (hr : Room k X.A) (hg : Gl X x) (hm : X.mg x = some (.ref f)) (hk : PySem.W.keepIn X.K (.ref f) = true) (hb : Binds X.K fd ps ds) (hd : Vals dvs ds) (hx : PassesX CX X E)
    (ha : PA X (e :: es) t) (hdb : (x == ("__debug__" : Str)) = false := by decide) (he : starEach (e :: es) X.env = (false, eval e X.env) :: starEach es X.env := by rfl) (hpl : (backTo pos (starEach es X.env)).any (·.1) = false := by rfl) :
    PE X (.Call (.Name x p) (e :: es) [] pos) (tCallX sp dvs E t) := by
  intro pins s σ H Q I h
  refine wpAny_Call_Name_kw (ld_glob I hg hm ?_ hdb)
  refine PySem.W.callWith_K (h₀ := X.base) I.ok.mod.kin hk (thn (ha pos pins s σ H _ I h) fun us s1 ⟨vs, H1, I1, r, q⟩ => ⟨I1.kIn, ?_⟩) he hpl
  exact run_fnX F hr hb hd hx I1 r q
theorem pe_methX {pl : Sem Bool} (he : PE X o ta) (c : Cls X.K C) (hm : Meth X.K C m f) (F : FnOk X.prog X.w X.K X.mg X.base CX k f fd ps sp) (hr : Room k X.A) (hb : Binds X.K fd ps ds) (hd : Vals dvs ds) (hx : PassesX CX X E) (ha : PA X (e :: es) t)
    (hst : starEach (e :: es) X.env = (false, eval e X.env) :: starEach es X.env := by rfl) (hpl : (backTo pos (starEach es X.env)).any (·.1) = false := by rfl)
    (ht : eval (.Call (.Attribute o m apos) (e :: es) [] pos) X.env = (do
      let ov ← eval o X.env
      standAt apos.atName
      let (f, first) ← holding [ov] (getMethod ov m pl)
      callWith pos f first (backTo pos (starEach (e :: es) X.env)) (backToKw pos (keywordEach [] X.env))) := by rfl) :
    PE X (.Call (.Attribute o m apos) (e :: es) [] pos) (tMethX C m sp dvs E ta t) := by
  intro pins s σ H Q I h
  refine PySem.W.methodCall_KW (pl := pl) (thn (he pins s σ H _ I h) fun u s1 ⟨x, H1, I1, rx, a, dx, fs, ex, ea, l, q⟩ => ?_) ht
  subst ex
  obtain rfl : u = Value.ref a := rx
  refine getmeth_ok I1 ea c hm l ?_
  refine PySem.W.callWith_K (first := [.ref a]) (h₀ := X.base) I.ok.mod.kin hm.kp (thn (ha pos pins s1 σ H1 _ I1 q) fun us s2 ⟨vs, H2, I2, r, q2⟩ => ⟨I2.kIn, ?_⟩) hst hpl
  exact run_fnX (us := .ref a :: us) (vs := .ref a :: vs) F hr hb hd hx I2 (.cons rfl r) q2
theorem pe_methX0 {pl : Sem Bool} (he : PE X o ta) (c : Cls X.K C) (hm : Meth X.K C m f) (F : FnOk X.prog X.w X.K X.mg X.base CX k f fd ps sp) (hr : Room k X.A) (hb : Binds X.K fd ps ds) (hd : Vals dvs ds) (hx : PassesX CX X E)
    (ht : eval (.Call (.Attribute o m apos) [] [] pos) X.env = (do
      let ov ← eval o X.env
      standAt apos.atName
      let (f, first) ← holding [ov] (getMethod ov m pl)
      callWith pos f first (backTo pos (starEach [] X.env)) (backToKw pos (keywordEach [] X.env))) := by rfl) :
    PE X (.Call (.Attribute o m apos) [] [] pos) (tMethX C m sp dvs E ta tNil) := by
  intro pins s σ H Q I h
  refine PySem.W.methodCall_KW (pl := pl) (thn (he pins s σ H _ I h) fun u s1 ⟨x, H1, I1, rx, a, dx, fs, ex, ea, l, q⟩ => ?_) ht
  subst ex
  obtain rfl : u = Value.ref a := rx
  refine getmeth_ok I1 ea c hm l ?_
  exact PySem.W.callWith_K0 (first := [.ref a]) I1.kIn hm.kp (run_fnX (us := [.ref a]) (vs := [.ref a]) F hr hb hd hx I1 (.cons rfl .nil) q)
theorem run_makeX {pins : List (Addr × Obj)} {σ : St} {H : Hp} {s : Shared} {Q : VK} {us : List Value} {vs : List V} (M : Mk X.K C f) (F : FnOk X.prog X.w X.K X.mg X.base CX k f fd ps sp) (hr : Room (k + 1) X.A) (hb : Binds X.K fd ps ds) (hd : Vals dvs ds)
    (hx : ∀ (H2 : Hp) (s2 : Shared) (e : Value) (s' : Shared), Inv X pins σ H2 s2 → CX X.stack H2 s2 (E σ) e s' → X.xe e s') (I : Inv X pins σ H s) (r : Vals vs us)
    (h : ∀ x dx, H x = none → H dx = none → dx ≠ x → sp (.ref x :: (vs ++ dvs)) (upd (upd H dx (.own x)) x (.ins C dx [])) (fun v H2 => v = .non ∧ Q (.ref x) H2) (E σ)) :
    wpAny (model X.prog X.w) X.A (call (.ref C) us) (EP X pins σ Q) X.xe s := by
  have hq := h (s.heap.objs.size + 1) s.heap.objs.size (I.hok.fresh (Nat.le_succ _)) (I.hok.fresh (Nat.le_refl _)) (Nat.ne_of_lt (Nat.lt_succ_self _))
  have I2 := Inv.made (C := C) I
  have r2 : Vals (V.ref (s.heap.objs.size + 1) :: (vs ++ dvs)) (Value.ref (s.heap.objs.size + 1) :: (us ++ ds)) := .cons rfl (r.append hd)
  have hl : (Value.ref (s.heap.objs.size + 1) :: us ++ ds).length = ps.length := by
    have e := r2.length
    rw [F.len _ _ _ _ hq] at e
    exact e.symm
  refine wpAny_call (make_map (f := f) I.kIn M.makes M.init (beq_iff_eq.mp M.fn) (codeAny_mono (F.run _ X.stack _ _ ⟨Value.ref (s.heap.objs.size + 1) :: us, []⟩ (Value.ref (s.heap.objs.size + 1) :: (us ++ ds)) _ _ (E σ) (hr.make C us [])
    (I2.env0.make C us []) (hb _ (Value.ref (s.heap.objs.size + 1) :: us) I2.kIn hl) r2 hq) fun r s' hq' => ?_))
  cases r with
  | error e => exact hx _ _ e s' I2 hq'
  | ok fl =>
    cases fl with
    | ret u =>
      obtain ⟨v, H', I3, rv, ev, q3⟩ := I2.after hq'
      subst ev
      exact ⟨rv, ⟨V.ref (s.heap.objs.size + 1), H', I3, rfl, q3⟩⟩
    | next => exact False.elim hq'
    | brk => exact False.elim hq'
    | cont => exact False.elim hq'
theorem pe_makeX (M : Mk X.K C f) (F : FnOk X.prog X.w X.K X.mg X.base CX k f fd ps sp) (hr : Room (k + 1) X.A) (hg : Gl X x) (hm : X.mg x = some (.ref C)) (hb : Binds X.K fd ps ds) (hd : Vals dvs ds) (hx : PassesX CX X E)
    (ha : PA X (e :: es) t) (hdb : (x == ("__debug__" : Str)) = false := by decide) (he : starEach (e :: es) X.env = (false, eval e X.env) :: starEach es X.env := by rfl) (hpl : (backTo pos (starEach es X.env)).any (·.1) = false := by rfl) :
    PE X (.Call (.Name x p) (e :: es) [] pos) (tMakeX C sp dvs E t) := by
  intro pins s σ H Q I h
  refine wpAny_Call_Name_kw (ld_glob I hg hm ?_ hdb)
  refine PySem.W.callWith_K (h₀ := X.base) I.ok.mod.kin M.kp (thn (ha pos pins s σ H _ I h) fun us s1 ⟨vs, H1, I1, r, q⟩ => ⟨I1.kIn, ?_⟩) he hpl
  exact run_makeX M F hr hb hd (fun H2 s2 e s' J z => hx pins σ H2 s2 e s' J z) I1 r q
end
end L2

set_option maxHeartbeats 4000000
namespace L2
open PySem PySem.Spec PyProof.Rows
def bmV : List Value := [.type "ValueError", .type "Exception", .type "BaseException", .type "object"]
def XCls (K : PySem.W.Frag) (C : Addr) : Prop := PySem.W.excIn K C bmV "ValueError.__new__" = true
theorem XCls.obj {K : PySem.W.Frag} {C : Addr} (q : XCls K C) : ∃ bm N nm qn bs hdct sn sub ab col dd k0 k1 k2 k3 k5, PySem.W.nsOkIn K N = true ∧ PySem.W.nsIn K N "__init__" = some none ∧ PySem.W.tailIn K bmV bm = true ∧
    K.lookup C = some (excClassObj nm qn C N bs bm hdct sn sub ab col dd k0 k1 k2 k3 k5 "ValueError.__new__") := by
  unfold XCls PySem.W.excIn at q
  split at q
  · next dd cd sl lk =>
    split at q
    · next C' bm k0 k1 k2 k3 nid k5 em es =>
      simp only [Bool.and_eq_true, beq_iff_eq, Bool.not_eq_true'] at q
      obtain ⟨⟨⟨⟨⟨e1, e2⟩, e3⟩, e4⟩, e5⟩, e6⟩ := q
      subst e1
      subst e2
      obtain ⟨nm, bs, mro, ns, qn, hdct, sn, sub, ab, col, del⟩ := cd
      dsimp only at em e3 e5 e6
      subst em
      subst e3
      obtain ⟨sll⟩ := sl
      dsimp only at es
      subst es
      exact ⟨bm, ns, nm, qn, bs, hdct, sn, sub, ab, col, dd, k0, k1, k2, k3, k5, e5, e6, e4, lk⟩
    · cases q
  · cases q
theorem ns_two {K : PySem.W.Frag} {N : Addr} {h h2 : Heap} {m : Str → Option Value} (ok : PySem.W.nsOkIn K N = true) (X : K.In h) (X2 : K.In h2) (n : h.Ns N m) : h2.Ns N m := by
  obtain ⟨o, es, ep, ho, r⟩ := n
  unfold PySem.W.nsOkIn at ok
  split at ok
  · next lk =>
    have e := X _ _ lk
    rw [ho] at e
    cases e
    exact ⟨_, es, ep, X2 _ _ lk, r⟩
  · cases ok
section
variable {X : Cx} {E : St → XK} {x : Str} {C : Addr} {e₀ : Expr} {es : List Expr} {t : TA} {np cpos pos : Pos}
def tRaise (C : Addr) (E : St → XK) (t : TA) : TS := fun _ σ H => t σ H fun vs H1 => vs.length ≤ sizeLine ∧ E σ (.ref C) none H1
theorem ps_raise (hC : XCls X.K C) (hc : X.calm = true) (hg : Gl X x) (hm : X.mg x = some (.ref C)) (hx : PassesX (CXE X.prog X.w) X E) (ha : PA X (e₀ :: es) t) (hdb : (x == ("__debug__" : Str)) = false := by decide)
    (he : starEach (e₀ :: es) X.env = (false, eval e₀ X.env) :: starEach es X.env := by rfl) (hpl : (backTo cpos (starEach es X.env)).any (·.1) = false := by rfl) :
    PS X (.Raise (some (.Call (.Name x np) (e₀ :: es) [] cpos)) none pos) (tRaise C E t) := by
  intro pins s σ H D I h
  obtain ⟨bm, N, nm, qn, bs, hdct, sn, sub, ab, col, dd, k0, k1, k2, k3, k5, f1, f2, f3, f4⟩ := hC.obj
  have hN := PySem.Heap.Ns.of_isNs (PySem.W.isNs_of_in I.kIn f1)
  refine wpAny_Raise_call_subT (C := C) (nm := nm) (q := qn) (N := N) (bs := bs) (bm := bm) (hdct := hdct) (sn := sn) (sub := sub) (ab := ab) (col := col) (dd := dd) (k0 := k0) (k1 := k1) (k2 := k2) (k3 := k3) (k5 := k5)
    PySem.F.excBase_ValueError (mN := s.heap.nsMap N) ((PySem.W.tail_of_in I.kIn f3).hasType PySem.F.excBase_ValueError.hasBase) (I.ok.hd hc) ?_ (PySem.W.nsMap_none_of_in I.kIn f1 f2) (ld_glob I hg hm ⟨rfl, ?_⟩ hdb)
  · rw [he]
    show (false || (backTo cpos (starEach es X.env)).any (·.1)) = false
    rw [hpl]
    rfl
  · have ha' := ha cpos pins s σ H _ I h
    rw [he] at ha' ⊢
    refine Calls.evalArgs_plain (thn ha' fun us s2 q => ?_)
    obtain ⟨vs, H1, I1, r, z, q⟩ := q
    refine ⟨rfl, by rw [← r.length]; exact z, I1.kIn _ _ f4, ns_two f1 I.kIn I1.kIn hN, PySem.W.tail_of_in I1.kIn f3, fun h' e hmade => ?_⟩
    obtain ⟨tp, q1, _, _⟩ := hmade.there
    exact hx pins σ H1 s2 (.ref e) _ I1 ⟨e, .ref C, none, H1, rfl, rfl, I1.bare, Un.kept hmade.keeps, I1.hok.kept hmade.keeps, ⟨.none, ⟨_, _, q1, rfl, rfl, rfl, rfl, .inl rfl⟩, h_none I1 hmade.new, hmade.new, fun T z => nomatch z⟩, q⟩
end
section
variable {X : Cx} {pins pins' : List (Addr × Obj)} {σ : St} {H H' : Hp} {s : Shared} {h' : Heap} {a T : Addr} {cls hd : Value} {dct : Option Addr}
theorem Inv.recx {pn' : List (Addr × Obj)} {A' : Around} {calm' : Bool} {xe' : Value → Shared → Prop} (I : Inv X pins σ H s) (hA : A'.frames = X.A.frames) (hcalm : calm' = true → A'.handled = none) (hp : ∀ p ∈ pn' ++ pins', p ∈ X.pn ++ pins) :
    Inv { X with pn := pn', A := A', calm := calm', xe := xe' } pins' σ H s :=
  ⟨⟨I.ok.mod, I.ok.kind, I.ok.glob, I.ok.blt, I.ok.above, I.ok.inj, I.ok.has, I.ok.cab, hcalm, hA.trans I.ok.frames, I.ok.stk, I.ok.exf, I.ok.bs, I.ok.bsz, I.ok.noex, I.ok.exfs, I.ok.funs, I.ok.frf⟩,
    I.os, I.bare, I.base, I.loc, I.cell, I.free, I.freeC, fun p q => I.pin p (hp p q), I.hok, I.len⟩
theorem Inv.recb {pn' : List (Addr × Obj)} {A' : Around} {calm' : Bool} {xe' : Value → Shared → Prop} (I : Inv { X with pn := pn', A := A', calm := calm', xe := xe' } pins' σ H s) (hA : A'.frames = X.A.frames) (hcalm : X.calm = true → X.A.handled = none) (hp : ∀ p ∈ X.pn ++ pins, p ∈ pn' ++ pins') :
    Inv X pins σ H s :=
  ⟨⟨I.ok.mod, I.ok.kind, I.ok.glob, I.ok.blt, I.ok.above, I.ok.inj, I.ok.has, I.ok.cab, hcalm, hA.symm.trans I.ok.frames, I.ok.stk, I.ok.exf, I.ok.bs, I.ok.bsz, I.ok.noex, I.ok.exfs, I.ok.funs, I.ok.frf⟩,
    I.os, I.bare, I.base, I.loc, I.cell, I.free, I.freeC, fun p q => I.pin p (hp p q), I.hok, I.len⟩
theorem Inv.flew (I : Inv X pins σ H s) (ha : H a = none) (na : X.s₀.heap.get? a = none) (hT : ∀ T, hd = .ref T → H T = none ∧ X.s₀.heap.get? T = none) (fl : FlyT s.heap a cls dct hd) (hp : ∀ p ∈ X.pn ++ pins, p.1 ≠ a ∧ hd ≠ .ref p.1)
    (keep : ∀ b o, b ≠ a → hd ≠ .ref b → b ∉ frs X.stack → s.heap.get? b = some o → h'.get? b = some o)
    (slot : ∀ b o, b ∈ frs X.stack → s.heap.get? b = some o → ∃ sl, h'.get? b = some { o with slots := sl }) {t' : Nat} : Inv X pins σ H { s with heap := h', toks := t' } := by
  obtain ⟨oe, vs, he, _, _, hdt, _, hc⟩ := fl
  have fT : ∀ T, hd = .ref T → ∃ o ts, s.heap.get? T = some o ∧ o.data = .fields ts := fun T z => by
    rcases hc with q | ⟨T', oT, ts, q, _, q2, q3, _⟩
    · rw [z] at q; cases q
    · rw [z] at q; cases q; exact ⟨_, _, q2, q3⟩
  have off : ∀ b o, s.heap.get? b = some o → (∀ ws, o.data ≠ .fields ws) → b ≠ a ∧ hd ≠ .ref b := fun b o e hn => ⟨fun z => (by rw [z, he] at e; cases e; exact hn vs hdt), fun z => by
    obtain ⟨o', ts, q1, q2⟩ := fT b z
    rw [q1] at e; cases e; exact hn ts q2⟩
  have s0 : ∀ b o, X.s₀.heap.get? b = some o → b ≠ a ∧ hd ≠ .ref b := fun b o e => ⟨fun z => (by rw [z, na] at e; cases e), fun z => (by rw [(hT b z).2] at e; cases e)⟩
  have s0L : ∀ b o, X.s₀.heap.get? b = some o → b ∈ frs X.stack → b ∈ X.fs := fun b o e hb => by
    rcases List.mem_cons.mp (I.stkSub b hb) with z | z
    · rw [z] at e
      exact absurd (Nat.lt_of_lt_of_le (Heap.lt_size e) I.ok.above) (Nat.lt_irrefl _)
    · exact z
  have any : ∀ b o, s.heap.get? b = some o → b ≠ a → hd ≠ .ref b → ∃ sl, h'.get? b = some { o with slots := sl } := fun b o e n1 n2 => by
    by_cases hb : b ∈ frs X.stack
    · exact slot b o hb e
    · exact ⟨o.slots, keep b o n1 n2 hb e⟩
  have inStack : ∀ b, b ∈ X.fs → b ∈ frs X.stack := fun b hb => by
    rcases I.ok.stk with z | ⟨z, _⟩
    · rw [z]; exact hb
    · rw [z]; exact frs_sub hb
  refine ⟨I.ok, I.os, I.bare, ⟨fun b o e n hb hx => ?_, fun b o e n hb hx => ?_, fun b o e n hx => I.base.free b o e n hx, fun b o e hx => ?_, I.base.tups, I.base.frzs, I.base.tbls⟩, ?_, fun y c e => ?_, I.free, I.freeC, fun p q => ?_, hok_fly I keep ha fun T z => (hT T z).1, I.len⟩
  · exact keep b o (s0 b o e).1 (s0 b o e).2 (fun z => hb (s0L b o e z)) (I.base.keep b o e n hb hx)
  · obtain ⟨sl, e1⟩ := I.base.slot b o e n hb hx
    obtain ⟨sl', e2⟩ := slot b _ (inStack b hb) e1
    exact ⟨sl', e2⟩
  · obtain ⟨o1, e1⟩ := I.base.there b o e hx
    obtain ⟨sl, e2⟩ := any b o1 e1 (s0 b o e).1 (s0 b o e).2
    exact ⟨_, e2⟩
  · obtain ⟨m, ⟨o, es, ep, ho, hd', r⟩, hl⟩ := I.loc
    have nf := off _ o ho fun ws z => by rw [hd'] at z; cases z
    obtain ⟨sl, e2⟩ := any _ o ho nf.1 nf.2
    refine ⟨m, ⟨_, es, ep, e2, hd', r⟩, fun i x v q1 q2 q3 => ?_⟩
    obtain ⟨u, r1, l⟩ := hl i x v q1 q2 q3
    refine ⟨u, r1, ?_⟩
    rcases l with l | ⟨k, c, e, oc, hoc, hcd⟩
    · exact .inl l
    · have nf := off c oc hoc fun ws z => by rw [hcd] at z; cases z
      obtain ⟨sl, e3⟩ := any c oc hoc nf.1 nf.2
      exact .inr ⟨k, c, e, _, e3, hcd⟩
  · obtain ⟨v, oc, hoc, hcd⟩ := I.cell y c e
    have nf := off c oc hoc fun ws z => by rw [hcd] at z; cases z
    obtain ⟨sl, e3⟩ := any c oc hoc nf.1 nf.2
    exact ⟨v, _, e3, hcd⟩
  · obtain ⟨e, n, ne, nf, d⟩ := I.pin p q
    refine ⟨keep p.1 p.2 (hp p q).1 (hp p q).2 (fun z => ?_) e, n, ne, nf, d⟩
    rcases List.mem_cons.mp (I.stkSub p.1 z) with z | z
    · exact ne z
    · exact nf z
def exO (a : Addr) (cls : Value) (dct : Option Addr) : HO := .ext fun h => ∃ oe vs, h.get? a = some oe ∧ oe.cls = cls ∧ oe.dict = dct ∧ oe.data = .fields vs
theorem Inv.track (I : Inv X pins σ H s) (ha : H a = none) (na : X.s₀.heap.get? a = none) (hp : ∀ p ∈ X.pn ++ pins, p.1 ≠ a) (fl : FlyT s.heap a cls dct hd) : Inv X pins σ (upd H a (exO a cls dct)) s := by
  obtain ⟨oe, vs, he, f1, f2, hdt, _, _⟩ := fl
  have off : ∀ b o, s.heap.get? b = some o → (∀ ws, o.data ≠ .fields ws) → b ≠ a := fun b o e hn z => by rw [z, he] at e; cases e; exact hn vs hdt
  have tr : ∀ b u, H b = some u → upd H a (exO a cls dct) b = some u := fun b u q => by rw [upd_ne (ne_of_none q ha)]; exact q
  refine ⟨I.ok, I.os, I.bare, ⟨I.base.keep, I.base.slot, fun b o e n hx => ?_, I.base.there, fun b xs e => tr b _ (I.base.tups b xs e), fun b o u e => tr b _ (I.base.frzs b o u e), fun b ps e => ?_⟩, I.loc, I.cell, ?_, fun y c e => ?_, fun p q => ?_, fun b u e => ?_, I.len⟩
  · rw [upd_ne (fun z => (by rw [z, na] at e; cases e))]
    exact I.base.free b o e n hx
  · obtain ⟨more, q⟩ := I.base.tbls b ps e
    exact ⟨more, tr b _ q⟩
  · obtain ⟨m, ⟨o, es, ep, ho, hd', r⟩, _⟩ := I.loc
    rw [upd_ne (off _ o ho fun ws z => (by rw [hd'] at z; cases z))]
    exact I.free
  · obtain ⟨v, oc, hoc, hcd⟩ := I.cell y c e
    rw [upd_ne (off c oc hoc fun ws z => (by rw [hcd] at z; cases z))]
    exact I.freeC y c e
  · obtain ⟨e, n, r⟩ := I.pin p q
    exact ⟨e, by rw [upd_ne (hp p q)]; exact n, r⟩
  · by_cases hb : b = a
    · subst hb
      rw [upd_same] at e
      cases e
      exact ⟨⟨oe, vs, he, f1, f2, hdt⟩, ⟨_, he⟩, fun h1 h2 ⟨o', ws, q1, q2⟩ k => ⟨o', ws, k _ q1, q2⟩⟩
    · rw [upd_ne hb] at e
      exact (I.hok b u e).stay (fun _ _ _ q => q) (fun c q => tr c _ q) fun c xs q => tr c _ q
end
theorem matches_own {M : Model} {A : Around} {E : Value → Shared → Prop} {s : Shared} {K : PySem.W.Frag} {e D : Addr} {oe : Obj} {C : Addr} {b : Bool} {Q : Bool → Shared → Prop} (X : K.In s.heap) (he : s.heap.get? e = some oe) (hc : oe.cls = .ref C)
    (hD : XCls K D) (hsub : PySem.W.mroIn K C (.ref D) = some b) (h : Q b s) : wpAny M A (excMatches (.ref e) (.ref D)) Q E s := by
  obtain ⟨bm, N, nm, qn, bs, hdct, sn, sub, ab, col, dd, k0, k1, k2, k3, k5, f1, f2, f3, f4⟩ := hD.obj
  have hD0 := X _ _ f4
  have L := PySem.W.looks_mroIn (M := M) X hsub
  obtain ⟨hp, g, d, tk, os⟩ := s
  have hcB : (Value.ref D :: bm).contains (.type "BaseException") = true := by rw [List.contains_cons, (PySem.W.tail_of_in X f3).hasType (show bmV.contains (.type "BaseException") = true by decide +kernel), Bool.or_true]
  have ft := tc_notTuple
  unfold excMatches
  repeat (first | (with_reducible refine wpAny_loadPart_at he ?_; rw [hc]) | with_reducible refine wpAny_loadPart_at hD0 ?_ | (with_reducible refine wpAny_isSubtype_exc hD0 ?_; rw [hcB]) | (with_reducible refine L.at ?_) | wp_step)
  cases b <;> (try wp_walk) <;> exact h
def asEnds (i : Nat) (D : Ends) : Ends := { nx := fun σ H => D.nx (σ.set i none) H, rt := D.rt, bk := fun σ H => D.bk (σ.set i none) H, ct := fun σ H => D.ct (σ.set i none) H }
def tTryAs (K : PySem.W.Frag) (D : Addr) (i : Nat) (tb : (St → XK) → TS) (ts : TS) : TS := fun Dn σ H =>
  tb (fun σ' cls dct H' => ∃ C, cls = .ref C ∧ PySem.W.mroIn K C (.ref D) = some true ∧ ∀ a, H' a = none → ts (asEnds i Dn) (σ'.set i (some (.ref a))) (upd H' a (exO a (.ref C) dct))) Dn σ H
theorem ps_try_as {X : Cx} {body suite : List Stmt} {b₀ : Stmt} {x n : Str} {np hpos pos : Pos} {D : Addr} {i : Nat} {tb : (St → XK) → TS} {ts : TS}
    (hc : X.calm = true) (hex : X.ex = []) (hst : X.stack = X.env :: X.outer) (hfr : X.env.frame = some X.env.locals) (hD : XCls X.K D) (hg : Gl X x) (hm : X.mg x = some (.ref D))
    (hN : X.N.Nodup) (hi : X.N[i]? = some n) (hl : X.env.scope.names.lookup n = some .local)
    (hb : ∀ (pn : List (Addr × Obj)) (xe : Value → Shared → Prop) (EX : St → XK), PassesX (CXE X.prog X.w) { X with pn := pn, xe := xe } EX → PSs { X with pn := pn, xe := xe } body (tb EX))
    (hs : ∀ (pn : List (Addr × Obj)) (A' : Around) (xe : Value → Shared → Prop), PSs { X with pn := pn, A := A', calm := false, xe := xe } (b₀ :: suite) ts) (hdb : (x == ("__debug__" : Str)) = false := by decide) :
    PS X (.Try body [.ExceptHandler (some (.Name x np)) (some n) (b₀ :: suite) hpos] [] [] pos) (tTryAs X.K D i tb ts) := by
  intro pins s σ H Dn I h
  have hh := I.ok.hd hc
  refine wpAny_Try_except ?_
  have back : ∀ {xe : Value → Shared → Prop} {σ' : St} {H' : Hp} {s' : Shared}, Inv { X with pn := X.pn ++ pins, xe := xe } [] σ' H' s' → Inv X pins σ' H' s' := fun {xe σ' H' s'} J =>
    Inv.recb (A' := X.A) (calm' := X.calm) J rfl (fun _ => hh) fun p q => by simpa using q
  refine wpAny_mono (hb (X.pn ++ pins) (fun e s₁ => wpAny (model X.prog X.w) X.A (noteFrame e X.env) (fun _ s₂ => wpAny (model X.prog X.w) X.A (setFlight e none) (fun _ s₃ =>
      wpAny (model X.prog X.w) X.A (handleBy e X.env [.ExceptHandler (some (.Name x np)) (some n) (b₀ :: suite) hpos]) (SP X pins Dn) X.xe s₃) X.xe s₂) X.xe s₁) _ ?_ [] s σ H Dn
      (Inv.recx (A' := X.A) (calm' := X.calm) I rfl (fun _ => hh) fun p q => by simpa using q) h) (fun f s1 q => ?_) fun _ _ z => z
  · intro pins2 σ2 H2 s2 e s3 I2 hx
    obtain ⟨a, cls, dct, H3, he, hos, hgn, un, hok, ⟨hd, fl, ha, na, hT⟩, C, hcls, hsub, q⟩ := hx
    subst he
    subst hcls
    have I3 := I2.call' hos un hok hgn (fun b z => absurd z (by simp))
    have na0 := s0_none I2 hex na
    have hT0 : ∀ T, hd = .ref T → H3 T = none ∧ X.s₀.heap.get? T = none := fun T z => ⟨(hT T z).1, by have q := s0_none I2 hex (hT T z).2; exact q⟩
    have hp3 : ∀ p ∈ (X.pn ++ pins) ++ pins2, p.1 ≠ a ∧ hd ≠ .ref p.1 := fun p z => by
      have e := (I2.pin p z).1
      exact ⟨fun w => (by rw [w, na] at e; cases e), fun w => (by rw [(hT _ w).2] at e; cases e)⟩
    refine fly_note (env := X.env) (outer := X.outer) (by have := I.ok.frames; rw [hst] at this; exact this) (by have := I3.stack; rw [show Cx.stack _ = X.env :: X.outer from hst] at this; exact this) hfr fl fun h4 T n1 n2 k1 k2 fl4 => ?_
    have I4 : Inv _ pins2 σ2 H3 { s3 with heap := h4, toks := s3.toks } := I3.flew ha na0 hT0 fl hp3 (fun b o m1 m2 m3 e => k1 b o m1 m2 (by rw [← hst]; exact m3) e) (fun b o m1 e => k2 b o (by rw [← hst]; exact m1) e)
    have nT4 : H3 T = none := h_none I3 n1
    have nT0 := s0_none I3 hex n1
    have hp4 : ∀ p ∈ (X.pn ++ pins) ++ pins2, p.1 ≠ a ∧ (Value.ref T : Value) ≠ .ref p.1 := fun p z => ⟨(hp3 p z).1, fun w => by
      have e := (I3.pin p z).1
      cases w
      rw [n1] at e; cases e⟩
    obtain ⟨oe, vs, g1, g2, _⟩ := id fl4
    have J40 := Inv.recx (A' := X.A.mark (some (.ref a))) (calm' := false) (pn' := X.pn ++ pins) (pins' := pins2) (xe' := fun _ _ => True) I4 rfl (fun z => nomatch z) (fun p q => q)
    have J4 : Inv { X with pn := X.pn ++ pins, A := X.A.mark (some (.ref a)), calm := false, xe := fun _ _ => True } pins2 σ2 H3 { s3 with heap := h4 } := J40
    refine wpAny_handleBy_cons (codeAny_handlers_test ?_) (by intro z; cases z)
    refine ld_glob (X := { X with pn := X.pn ++ pins, A := X.A.mark (some (.ref a)), calm := false, xe := fun _ _ => True }) J4 hg hm ?_ hdb
    refine matches_own J4.kIn g1 g2 hD hsub ?_
    refine codeAny_handlers_suite_as (fly_rest fl4 fun h5 k5 fl5 => ?_)
    have J5 := J4.flew (h' := h5) (t' := s3.toks) ha na0 (fun T' z => by cases z; exact ⟨nT4, nT0⟩) fl4 hp4 (fun b o _ m2 _ e => k5 b o (fun z => m2 (by rw [z])) e) (fun b o m1 e => by
      refine ⟨o.slots, k5 b o (fun z => ?_) e⟩
      obtain ⟨_, o', ho', hn⟩ := J4.stack.mem m1
      obtain ⟨oe', vs', _, _, _, _, _, hcc⟩ := id fl4
      rcases hcc with w | ⟨T', oT, ts', w, _, w2, w3, _⟩
      · cases w
      · cases w
        rw [z, w2] at ho'
        cases ho'
        exact hn _ w3)
    have J6 := J5.track ha na0 (fun p z => (hp4 p z).1) fl5
    refine store_ok (X := { X with pn := X.pn ++ pins, A := X.A.mark (some (.ref a)), calm := false, xe := fun _ _ => True }) (v := .ref a) J6 hN hi (.inl hl) rfl (fun s7 J7 => ?_) (.inr hl)
    refine wpAny_mono ((hs (X.pn ++ pins) (X.A.mark (some (.ref a))) _) pins2 s7 _ _ (asEnds i Dn) (Inv.recx (X := { X with pn := X.pn ++ pins, A := X.A.mark (some (.ref a)), calm := false, xe := fun _ _ => True }) (A' := X.A.mark (some (.ref a))) (calm' := false) (pn' := X.pn ++ pins) J7 rfl (fun z => nomatch z) fun p q => q) (q a ha)) (fun f s8 w => ?_) fun _ _ z => z
    have fin : ∀ {xe : Value → Shared → Prop} {σ' : St} {H' : Hp} {Q' : Unit → Shared → Prop}, Inv { X with pn := X.pn ++ pins, A := X.A.mark (some (.ref a)), calm := false, xe := xe } pins2 σ' H' s8 → (∀ s9, Inv X pins (σ'.set i none) H' s9 → Q' () s9) →
        wpAny (model X.prog X.w) X.A (do bindName X.env n .none; unbindBehindTheSuite X.env n hpos) Q' X.xe s8 := fun {xe σ' H' Q'} J k => by
      have J' : Inv X pins σ' H' s8 := Inv.recb (A' := X.A.mark (some (.ref a))) (calm' := false) J rfl (fun _ => hh) fun p q => by simp; rcases List.mem_append.mp q with z | z <;> simp [z]
      obtain ⟨m, hn, hlo⟩ := J'.loc
      refine wpAny_nameGoes_keeps hl hn (by rw [J'.ok.kind]; rfl) fun h9 v hn9 sb => k _ ?_
      have J8 : Inv X pins σ' H' { s8 with toks := s8.toks + 1 } := J'.tok _
      obtain ⟨oL, _, _, hoL, _⟩ := id hn
      have cne := J'.cne
      have oth : ∀ b o, b ≠ X.env.locals → s8.heap.get? b = some o → h9.get? b = some o := fun b o nb e => (sb.2 b nb).trans e
      refine ⟨J'.ok, J'.os, J'.bare, ⟨fun b o e n hb hx => ?_, fun b o e n hb hx => ?_, J'.base.free, fun b o e hx => ?_, J'.base.tups, J'.base.frzs, J'.base.tbls⟩, ⟨_, hn9, fun j y v' e1 e2 e3 => ?_⟩, fun y c e => ?_, J'.free, J'.freeC, fun p hp => ?_, fun b ob e => ?_, by simpa using J'.len⟩
      · exact oth b o (Nat.ne_of_lt (Nat.lt_of_lt_of_le (Heap.lt_size e) J'.ok.above)) (J'.base.keep b o e n hb hx)
      · obtain ⟨sl, e1⟩ := J'.base.slot b o e n hb hx
        exact ⟨sl, oth b _ (Nat.ne_of_lt (Nat.lt_of_lt_of_le (Heap.lt_size e) J'.ok.above)) e1⟩
      · obtain ⟨o', e1⟩ := J'.base.there b o e hx
        exact ⟨o', oth b _ (Nat.ne_of_lt (Nat.lt_of_lt_of_le (Heap.lt_size e) J'.ok.above)) e1⟩
      · by_cases hj : j = i
        · subst hj
          rw [List.getElem?_set_self (by rw [J'.len]; exact (List.getElem?_eq_some_iff.mp hi).1)] at e2
          cases e2
        · rw [List.getElem?_set_ne (Ne.symm hj)] at e2
          obtain ⟨u', r', w'⟩ := hlo j y v' e1 e2 e3
          refine ⟨u', r', ?_⟩
          rcases w' with ⟨k', e⟩ | ⟨k', c, e, z⟩
          · refine .inl ⟨k', ?_⟩
            have : y ≠ n := fun e => hj (nodup_ix hN e1 (e ▸ hi))
            simp [this, e]
          · exact .inr ⟨k', c, e, z.sameBut sb (cne y c e)⟩
      · obtain ⟨w', z⟩ := J'.cell y c e
        exact ⟨w', z.sameBut sb (cne y c e)⟩
      · obtain ⟨e, n, ne, nf, d⟩ := J'.pin p hp
        exact ⟨oth p.1 _ ne e, n, ne, nf, d⟩
      · refine (J'.hok b ob e).stay (fun c w' hc q => oth c w' ?_ q) (fun _ q => q) fun _ _ q => q
        rintro rfl
        rcases hc with rfl | hc
        · rw [J'.free] at e; cases e
        · rw [J'.free] at hc; cases hc
    cases f with
    | next => obtain ⟨σ', H', J, d⟩ := w; exact fin J fun s9 J9 => ⟨_, H', J9, d⟩
    | brk => obtain ⟨σ', H', J, d⟩ := w; exact fin J fun s9 J9 => ⟨_, H', J9, d⟩
    | cont => obtain ⟨σ', H', J, d⟩ := w; exact fin J fun s9 J9 => ⟨_, H', J9, d⟩
    | ret u => obtain ⟨v, σ', H', J, r, d⟩ := w; exact fin J fun s9 J9 => ⟨v, _, H', J9, r, d⟩
  · cases f with
    | next => obtain ⟨σ', H', J, d⟩ := q; exact wpAny_execs_nil ⟨σ', H', back J, d⟩
    | brk => obtain ⟨σ', H', J, d⟩ := q; exact ⟨σ', H', back J, d⟩
    | cont => obtain ⟨σ', H', J, d⟩ := q; exact ⟨σ', H', back J, d⟩
    | ret u => obtain ⟨v, σ', H', J, r, d⟩ := q; exact ⟨v, σ', H', back J, r, d⟩
end L2

set_option maxHeartbeats 4000000
namespace L2
open PySem PySem.Spec PyProof.Rows PyProof.V PySem.SeqAt
mutual
inductive DatV (K : PySem.W.Frag) (H : Hp) : V → PyData → Prop
  | non : DatV K H .non .none
  | bl (b : Bool) : DatV K H (.bl b) (.bool b)
  | int (i : Int) : DatV K H (.int i) (.int i)
  | str (x : Str) : DatV K H (.str x) (.str x)
  | lst {a : Addr} {xs : List V} {ds : List PyData} : SqL K H a xs → DatAll K H xs ds → DatV K H (.ref a) (.list ds)
  | tup {a : Addr} {xs : List V} {ds : List PyData} : SqT K H a xs → DatAll K H xs ds → DatV K H (.ref a) (.tuple ds)
inductive DatAll (K : PySem.W.Frag) (H : Hp) : List V → List PyData → Prop
  | nil : DatAll K H [] []
  | cons {x : V} {xs : List V} {d : PyData} {ds : List PyData} : DatV K H x d → DatAll K H xs ds → DatAll K H (x :: xs) (d :: ds)
end
theorem datAll_ints (K : PySem.W.Frag) (H : Hp) : ∀ ns : List Int, DatAll K H (ns.map V.int) (ns.map PyData.int)
  | [] => .nil
  | n :: r => .cons (.int n) (datAll_ints K H r)
section
variable {X : Cx} {pins : List (Addr × Obj)} {σ : St} {H : Hp} {s : Shared}
mutual
theorem DatV.reads (I : Inv X pins σ H s) {v : V} {d : PyData} (h : DatV X.K H v d) {u : Value} (r : RelV v u) : ∃ as, Reads s.heap u d as := by
  cases h with
  | non => cases r; exact ⟨_, .none⟩
  | bl b => cases r; exact ⟨_, .bool b⟩
  | int i => obtain ⟨t, rfl⟩ := r; exact ⟨_, .int i t⟩
  | str x => obtain ⟨t, rfl⟩ := r; exact ⟨_, .str x t⟩
  | lst hq ha =>
    cases r
    obtain ⟨its, rv, ⟨o, n, e, c, _, dd⟩, _⟩ := I.list hq
    obtain ⟨as, q⟩ := DatAll.reads I ha rv
    exact ⟨_, .list e c dd (by simpa using q)⟩
  | tup hq ha =>
    cases r
    obtain ⟨its, rv, ⟨o, e, c, n, dd⟩, _⟩ := I.tuple hq
    obtain ⟨as, q⟩ := DatAll.reads I ha rv
    exact ⟨_, .tuple e c dd (by simpa using q)⟩
theorem DatAll.reads (I : Inv X pins σ H s) {vs : List V} {ds : List PyData} (h : DatAll X.K H vs ds) {us : List Value} (r : Vals vs us) : ∃ as, ReadsAll s.heap us ds as := by
  cases h with
  | nil => cases r; exact ⟨_, .nil⟩
  | cons h1 h2 =>
    cases r with
    | cons r1 r2 =>
      obtain ⟨a1, q1⟩ := DatV.reads I h1 r1
      obtain ⟨a2, q2⟩ := DatAll.reads I h2 r2
      exact ⟨_, .cons q1 q2⟩
end
def rEqD (K : PySem.W.Frag) : R2 := fun x y H Q => ∃ d d', DatV K H x d ∧ DatV K H y d' ∧ shaped d = true ∧ shaped d' = true ∧ noMix d d' = true ∧ Q (.bl (same d d')) H
def rNeD (K : PySem.W.Frag) : R2 := fun x y H Q => ∃ d d', DatV K H x d ∧ DatV K H y d' ∧ shaped d = true ∧ shaped d' = true ∧ noMix d d' = true ∧ Q (.bl (!same d d')) H
theorem op_eqD (hu : X.A.units + 64 < cLine) : OpR X (compareOp .Eq) (rEqD X.K) := by
  intro pins s σ H x y v u Q I rx ry h
  obtain ⟨d, d', h1, h2, s1, s2, nm, q⟩ := h
  obtain ⟨_, r1⟩ := h1.reads I rx
  obtain ⟨_, r2⟩ := h2.reads I ry
  exact eq_dataH_same r1 r2 s1 s2 hu nm ⟨.bl _, H, I, rfl, q⟩
theorem op_neD (hu : X.A.units + 64 < cLine) : OpR X (compareOp .NotEq) (rNeD X.K) := by
  intro pins s σ H x y v u Q I rx ry h
  obtain ⟨d, d', h1, h2, s1, s2, nm, q⟩ := h
  obtain ⟨_, r1⟩ := h1.reads I rx
  obtain ⟨_, r2⟩ := h2.reads I ry
  exact ne_dataH_same r1 r2 s1 s2 hu nm ⟨.bl _, H, I, rfl, q⟩
theorem ints_of_vals : ∀ {ns : List Int} {us : List Value}, Vals (ns.map V.int) us → IntsAre us ns
  | [], _, r => by cases r; exact .nil
  | n :: ns, _, r => by
    rw [List.map_cons] at r
    cases r with
    | cons r1 r2 =>
      obtain ⟨t, rfl⟩ := r1
      exact .cons n t (ints_of_vals r2)
theorem Inv.listI (I : Inv X pins σ H s) {a : Addr} {ns : List Int} (h : SqL X.K H a (ns.map V.int)) : ∃ vs : List Value, s.heap.IsList a vs.toArray ∧ IntsAre vs ns ∧ ns.length ≤ sizeLine := by
  obtain ⟨its, rv, p, hz⟩ := I.list h
  exact ⟨its, p.isList, ints_of_vals rv, by simpa using hz⟩
def rCount : V → List V → Hp → VK → Prop := fun x vs H Q => ∃ (l : Addr) (ns : List Int) (k : Int), x = .ref l ∧ vs = [.int k] ∧ H l = some (.lst (ns.map V.int)) ∧ Q (.int (ns.count k : Nat)) H
theorem mt_count : MtM X "list.count" rCount := by
  intro pins s σ H x xs v us Q I rx rv h
  obtain ⟨l, ns, k, rfl, rfl, hl, q⟩ := h
  cases rx
  obtain ⟨u, rfl, t, rfl⟩ := vals1 rv
  obtain ⟨vs, hl', hi, _⟩ := I.listI (SqL.of hl)
  exact count_list_ints hl' hi ⟨.int _, H, I.tok _, ⟨_, rfl⟩, q⟩
def rIndex : V → List V → Hp → VK → Prop := fun x vs H Q => ∃ (l : Addr) (ns : List Int) (k : Int), x = .ref l ∧ vs = [.int k] ∧ H l = some (.lst (ns.map V.int)) ∧ k ∈ ns ∧ Q (.int (ns.idxOf k : Nat)) H
theorem mt_index : MtM X "list.index" rIndex := by
  intro pins s σ H x xs v us Q I rx rv h
  obtain ⟨l, ns, k, rfl, rfl, hl, hk, q⟩ := h
  cases rx
  obtain ⟨u, rfl, t, rfl⟩ := vals1 rv
  obtain ⟨vs, hl', hi, hz⟩ := I.listI (SqL.of hl)
  have h1 : ns.idxOf k < ns.length := List.idxOf_lt_length_iff.mpr hk
  have h2 := hi.length
  have h3 : sizeLine = 16777216 := sizeLine_eq
  obtain ⟨⟨oc, od, odt, osl⟩, e, ec, n, ed⟩ := hl'
  dsimp only at ec ed
  subst ec
  subst ed
  refine call_meets PySem.F.slot_list_index ⟨_, e, rfl⟩ PySem.F.entry_list_index (PySem.F.args_list_index_2 _ _) (PySem.SeqAt.list_indexAt l vs.toArray n od osl (.int k t) (isInt k) (ns.idxOf k)
    (by simpa [h2] using h1) (by omega) ?_ fun j hj lt => ?_) ⟨e, fun y hy => (eq_isInt k t hi y (by simpa using hy)).at _ _, ⟨.int _, H, I.tok _, ⟨_, rfl⟩, q⟩⟩
  · have : isInt k (vs[ns.idxOf k]'(by omega)) = true := by
      rw [isInt_at k hi _ (by omega) h1]
      simpa using List.getElem_idxOf h1
    exact this
  · have : isInt k (vs[j]'(by simpa using hj)) = false := by
      rw [isInt_at k hi j (by simpa using hj) (by omega)]
      exact ne_of_lt_idxOf lt _
    exact this
end
theorem eq_pure {M : Model} {A : Around} {m : Sem Unit} {Q : Unit → Shared → Prop} {E : Value → Shared → Prop} {s : Shared} (h : m = pure ()) (q : Q () s) : wpAny M A m Q E s := by rw [h]; exact wpAny_pure q
theorem exc_class {prog : Program} {w : World} {A : Around} {E : Value → Shared → Prop} {s : Shared} {K : PySem.W.Frag} {x D : Addr} {oe : Obj} {Q : Option Value → Shared → Prop} (X : K.In s.heap) (I : PySem.W.InstAt s.heap x oe D none)
    (hga : PySem.W.findIn K (.ref D) "__getattribute__" = some (some (.builtin "BaseException.__getattribute__"))) (hno : PySem.W.findIn K (.ref D) "__getattr__" = some none) (hb : PySem.W.mroIn K D (.type "BaseException") = some true)
    (hm : PySem.W.mroIn K D (.type "object") = some true) (hf : PySem.W.findObj K D none "__class__" = some (.bind (.builtin "getset_descriptor.__get__") (.builtin "object.__class__"))) (h : Q (some (.ref D)) { s with toks := s.toks + 1 }) :
    wpAny (model prog w) A (getAttr? (.ref x) "__class__") Q E s := by
  obtain ⟨hh, g, d, t, os⟩ := s
  have L0 := I.type (M := model prog w)
  have L1 := PySem.W.looks_findIn (M := model prog w) X hga
  have L2 := PySem.W.looks_findIn (M := model prog w) X hno
  have L3 := PySem.W.looks_mroIn (M := model prog w) X hb
  have L4 := PySem.W.looks_find (M := model prog w) X I hf
  unfold getAttr? getAttrBy? getAttrBy
  refine wpAny_bind (wpAny_mkText (wpAny_bind (wpAny_attempt (wpAny_holding (wpAny_bind (L0.at (wpAny_bind (L1.at ?_))))))))
  show wpAny _ _ (getAttrByItsOwn _ _ _ _ _ _) _ _ _
  unfold getAttrByItsOwn
  refine wpAny_bind (show wpAny _ _ (typeLookup (.ref D) "__getattr__") _ _ _ from L2.at ?_)
  refine wpAny_bind (wpAny_attempt (wpAny_holding ?_))
  show wpAny _ _ (boundAndCalled _ _ _) _ _ _
  unfold boundAndCalled
  rw [PySem.F.excAttr_ValueError.ga.bind]
  refine wpAny_bind (wpAny_pure ?_)
  show wpAny _ _ (call (.builtin "BaseException.__getattribute__") [.ref x, .str "__class__" _]) _ _ _
  have hk : builtinKind "BaseException.__getattribute__" = some .slot := by decide +kernel
  have hsplit : splitId "BaseException.__getattribute__" = some ("BaseException", "__getattribute__") := by decide +kernel
  refine wpAny_call (codeAny_call_builtin PySem.F.excAttr_ValueError.ga.plain PySem.F.entry_bexc_ga ?_)
  have ha := PySem.F.args_bexc_ga (.ref x) (.str "__class__" t)
  simp only [checkBuiltinCall, hk, hsplit]
  refine wpAny_bind ?_
  unfold isInstance
  refine wpAny_bind (L0.at (L3.at ?_))
  rw [if_neg (by decide)]
  refine eq_pure ha ?_
  unfold Builtin.«object.__getattribute__»
  refine wpAny_bind ?_
  refine wpAny_pure ?_
  dsimp only
  refine wpAny_bind (wpAny_pure (wpAny_bind (L0.at (wpAny_bind (L4.at ?_)))))
  dsimp only
  show wpAny _ _ (holding [.builtin "object.__class__"] (call (.builtin "getset_descriptor.__get__") [.builtin "object.__class__", .ref x, .ref D]) >>= ret) _ _ _
  refine wpAny_bind (wpAny_holding (wpAny_call (PySem.W.class_get (s := ⟨hh, g, d, t + 1, os⟩) (ox := oe) (od := none) X I hm ?_)))
  refine wpAny_pure ?_
  exact PySem.W.handed_on rfl (wpAny_pure h)
structure XIs (K : PySem.W.Frag) (C : Addr) : Prop where
  hga : PySem.W.findIn K (.ref C) "__getattribute__" = some (some (.builtin "BaseException.__getattribute__"))
  hno : PySem.W.findIn K (.ref C) "__getattr__" = some none
  hb : PySem.W.mroIn K C (.type "BaseException") = some true
  hd : PySem.W.hasDictIn K C = true
  ha : PySem.W.findIn K (.ref C) "__class__" = some (some (.builtin "object.__class__"))
  hm : PySem.W.mroIn K C (.type "object") = some true
structure IsK (K : PySem.W.Frag) : Prop where
  hn : PySem.W.specialIn K (.builtin "object.__class__") "__get__" = some (some (.builtin "getset_descriptor.__get__"))
  htk : PySem.W.takesIn K (.builtin "object.__class__") = some true
inductive TyE (K : PySem.W.Frag) (H : Hp) : V → Value → Prop where
  | of {x : V} {t : Value} (h : TyOf K H x t) : TyE K H x t
  | exc {a C : Addr} (e : H a = some (exO a (.ref C) none)) (x : XIs K C) (k : IsK K) : TyE K H (.ref a) (.ref C)
def clsV : V → Value
  | .ref a => .ref a
  | .ty n => .type n
  | _ => .none
def isClsV : V → Bool
  | .ref _ => true
  | .ty _ => true
  | _ => false
theorem clsV_of {c : V} {u : Value} (h : isClsV c = true) (r : RelV c u) : u = clsV c := by
  cases c <;> first | exact r | exact absurd (show false = true from h) Bool.false_ne_true
theorem kitx_exc {K : PySem.W.Frag} {x D : Addr} (q : XIs K D) (k : IsK K) : PySem.W.KitX K (.ref x) (.ref D) (fun h => ∃ oe vs, h.get? x = some oe ∧ oe.cls = .ref D ∧ oe.dict = none ∧ oe.data = .fields vs) where
  ty := fun M h _ p => by
    obtain ⟨oe, vs, h1, h2, _⟩ := p
    exact h2 ▸ (PySem.W.Looks.ld h1).andThen .now
  it := fun _ _ X _ => by
    obtain ⟨cdD, hcD, _⟩ := PySem.W.any_some q.hd
    unfold PySem.W.clsIn at hcD
    split at hcD
    · next ho =>
      intro A' Q' E' s' k q
      unfold isType loadHead
      exact wpAny_bind (wpAny_loadPart (k _ _ (X _ _ ho)) (wpAny_pure q))
    · cases hcD
  ne := fun h tp dd its n sl X htp => by
    obtain ⟨cdD, hcD, _⟩ := PySem.W.any_some q.hd
    refine Bool.eq_false_iff.mpr fun z => ?_
    have e : D = tp := Value.ref.inj (beq_iff_eq.mp z)
    subst e
    unfold PySem.W.clsIn at hcD
    split at hcD
    · next ho =>
      have z := (X _ _ ho).symm.trans htp
      cases z
    · cases hcD
  ca := fun {prog w A E Q s} X p hq => by
    obtain ⟨oe, vs, h1, h2, h3, h4⟩ := p
    have I : PySem.W.InstAt s.heap x oe D none := ⟨h1, h2, by unfold PySem.W.notCls; rw [h4], by rw [h3]; trivial⟩
    have hf : PySem.W.findObj K D none "__class__" = some (.bind (.builtin "getset_descriptor.__get__") (.builtin "object.__class__")) := by
      obtain ⟨cd, hc, _⟩ := PySem.W.any_some q.hd
      unfold PySem.W.findObj
      rw [hc, Option.bind_some, q.ha, Option.bind_some]
      simp [k.hn, k.htk]
    exact exc_class X I q.hga q.hno q.hb q.hm hf hq
section
variable {X : Cx}
theorem tyE_kit {pins : List (Addr × Obj)} {σ : St} {H : Hp} {s : Shared} {x : V} {u t : Value} (I : Inv X pins σ H s) (rx : RelV x u) (ty : TyE X.K H x t) : ∃ P : Heap → Prop, PySem.W.KitX X.K u t P ∧ P s.heap ∧ u ≠ .builtin "__main__.__loader__#opaque" := by
  cases ty with
  | exc e q k =>
    cases rx
    exact ⟨_, kitx_exc q k, (I.hok _ _ e).1, fun z => nomatch z⟩
  | of h =>
    cases h with
    | non => cases (show u = Value.none from rx); exact ⟨_, PySem.W.kitx_none, trivial, fun z => nomatch z⟩
    | bl y => cases (show u = Value.bool y from rx); exact ⟨_, PySem.W.kitx_bool, trivial, fun z => nomatch z⟩
    | int i => obtain ⟨t, q⟩ := (show ∃ t, u = Value.int i t from rx); cases q; exact ⟨_, PySem.W.kitx_int, trivial, fun z => nomatch z⟩
    | str y => obtain ⟨t, q⟩ := (show ∃ t, u = Value.str y t from rx); cases q; exact ⟨_, PySem.W.kitx_str, trivial, fun z => nomatch z⟩
    | flt y => obtain ⟨t, q⟩ := (show ∃ t, u = Value.float y t from rx); cases q; exact ⟨_, PySem.W.kitx_float, trivial, fun z => nomatch z⟩
    | @lst a xs ea =>
      cases (show u = Value.ref a from rx)
      obtain ⟨_, _, n, _, h1⟩ := (show ObjOk X.prog X.w H s.heap a (.lst xs) from I.hok a _ ea)
      exact ⟨_, PySem.W.kitx_list, ⟨_, h1, rfl⟩, fun z => nomatch z⟩
    | @frz a ob xs ea =>
      cases (show u = Value.ref a from rx)
      obtain ⟨_, _, _, n, _, h1⟩ := (show ObjOk X.prog X.w H s.heap a (.frz ob (.lst xs)) from I.hok a _ ea)
      exact ⟨_, PySem.W.kitx_list, ⟨_, h1, rfl⟩, fun z => nomatch z⟩
    | @tup a xs ea =>
      cases (show u = Value.ref a from rx)
      obtain ⟨_, _, _, p⟩ := (show ObjOk X.prog X.w H s.heap a (.tup xs) from I.hok a _ ea)
      obtain ⟨o, h1, h2, _⟩ := p
      exact ⟨_, PySem.W.kitx_tuple, ⟨o, h1, h2⟩, fun z => nomatch z⟩
    | @dK a kvs ea =>
      cases (show u = Value.ref a from rx)
      obtain ⟨_, _, vs, _, p⟩ := (show ObjOk X.prog X.w H s.heap a (.dK kvs) from I.hok a _ ea)
      obtain ⟨o, es, ep, h1, h2, _⟩ := p
      exact ⟨_, PySem.W.kitx_dict, ⟨o, h1, h2.1⟩, fun z => nomatch z⟩
    | @dT a kvs ea =>
      cases (show u = Value.ref a from rx)
      obtain ⟨_, _, xs, _, o, es, ep, h1, h2, _⟩ := (show ObjOk X.prog X.w H s.heap a (.dT kvs) from I.hok a _ ea)
      exact ⟨_, PySem.W.kitx_dict, ⟨o, h1, h2.1⟩, fun z => nomatch z⟩
    | @ins a C dx fs ea cl ha hn htk hm =>
      cases (show u = Value.ref a from rx)
      obtain ⟨mA, O, _⟩ := ins_get I.hok ea
      obtain ⟨od, J, _⟩ := O.look
      exact ⟨_, PySem.W.kitx_own (cl.get _) cl.hd ha hn htk hm, J, fun z => nomatch z⟩
theorem call_isinst : CallR X (.builtin "isinstance") (fun xs H Q => ∃ x c t b, xs = [x, c] ∧ isClsV c = true ∧ TyE X.K H x t ∧ PySem.W.kitOne X.K t (clsV c) = some b ∧ Q (.bl b) H) := by
  intro pins s σ H xs us Q I r h
  obtain ⟨x, c, t, b, rfl, hc, ty, e, q⟩ := h
  obtain ⟨u, v, rfl, ru, rv⟩ := vals2 r
  have := clsV_of hc rv
  subst this
  obtain ⟨P, kx, p, ne⟩ := tyE_kit I ru ty
  exact PySem.W.kia_one kx I.kIn p e ne fun tk => ⟨.bl b, H, I.tok tk, rfl, q⟩
end
end L2

set_option maxHeartbeats 4000000
namespace L2
open PySem
def closL (cells : List (Str × Addr)) : List (Str × NameKind) → List (Str × Addr) → List (Str × Addr)
  | [], acc => acc
  | (n, k) :: r, acc => closL cells r (if k == .free then (n, (cells.lookup n).getD 0) :: acc else acc)
def closF (env : Env) (x : Str × NameKind) (cs : List (Str × Addr)) : Sem (ForInStep (List (Str × Addr))) := match x with
  | (name, kind) => if (kind == .free) = true then do let a ← cellOf env name; pure (ForInStep.yield ((name, a) :: cs)) else pure (ForInStep.yield cs)
theorem closF_eq {env : Env} {n : Str} {k : NameKind} {cs : List (Str × Addr)} (h : k = .free → ∃ c, env.cells.lookup n = some c) :
    closF env (n, k) cs = pure (ForInStep.yield (if k == .free then (n, (env.cells.lookup n).getD 0) :: cs else cs)) := by
  unfold closF
  by_cases hk : (k == NameKind.free) = true
  · obtain ⟨c, hc⟩ := h (by simpa using hk)
    simp only [hk, if_true, cellOf, hc, pure_bind, Option.getD_some]
  · simp only [hk, if_false, Bool.false_eq_true]
theorem clos_eq {scope : Scope} {env : Env} (h : ∀ y ∈ scope.names, y.2 = .free → ∃ c, env.cells.lookup y.1 = some c) : closureFor scope env = pure (closL env.cells scope.names []) := by
  have key : ∀ (l : List (Str × NameKind)) (acc : List (Str × Addr)), (∀ y ∈ l, y.2 = .free → ∃ c, env.cells.lookup y.1 = some c) →
      forIn l acc (closF env) = (pure (closL env.cells l acc) : Sem (List (Str × Addr))) := by
    intro l
    induction l with
    | nil => intro acc _; rfl
    | cons p r ih =>
      obtain ⟨n, k⟩ := p
      intro acc hl
      rw [List.forIn_cons, closF_eq (fun z => hl (n, k) List.mem_cons_self z), pure_bind]
      exact ih _ fun y hy => hl y (List.mem_cons_of_mem _ hy)
  show (forIn scope.names [] (closF env) >>= fun cs => pure cs) = _
  rw [key scope.names [] h, pure_bind]
theorem closL_in {cells : List (Str × Addr)} {y : Str} {c : Addr} : ∀ {l : List (Str × NameKind)} {acc : List (Str × Addr)}, (∀ p ∈ l, p.2 = .free → ∃ c, cells.lookup p.1 = some c) → (acc.lookup y = some c → cells.lookup y = some c) →
    (closL cells l acc).lookup y = some c → cells.lookup y = some c
  | [], acc, _, ha, h => ha h
  | (n, k) :: r, acc, hl, ha, h => by
    refine closL_in (l := r) (fun p hp => hl p (List.mem_cons_of_mem _ hp)) ?_ h
    by_cases hk : (k == NameKind.free) = true
    · rw [if_pos hk, List.lookup_cons]
      obtain ⟨d, hd⟩ := hl (n, k) List.mem_cons_self (by simpa using hk)
      have hd' : cells.lookup n = some d := hd
      cases e : y == n with
      | true =>
        have : y = n := beq_iff_eq.mp e
        subst this
        intro q
        rw [hd'] at q ⊢
        exact q
      | false => exact ha
    · rw [if_neg hk]; exact ha
theorem closL_acc {cells : List (Str × Addr)} {y : Str} : ∀ {l : List (Str × NameKind)} {acc : List (Str × Addr)}, (∃ c, acc.lookup y = some c) → ∃ c, (closL cells l acc).lookup y = some c
  | [], _, h => h
  | (n, k) :: r, acc, h => by
    refine closL_acc (l := r) ?_
    by_cases hk : (k == NameKind.free) = true
    · rw [if_pos hk, List.lookup_cons]
      cases e : y == n with
      | true => exact ⟨_, rfl⟩
      | false => exact h
    · rw [if_neg hk]; exact h
theorem closL_has {cells : List (Str × Addr)} {y : Str} : ∀ {l : List (Str × NameKind)} {acc : List (Str × Addr)}, (y, NameKind.free) ∈ l → ∃ c, (closL cells l acc).lookup y = some c
  | [], _, h => nomatch h
  | (n, k) :: r, acc, h => by
    rcases List.mem_cons.mp h with q | q
    · cases q
      refine closL_acc (l := r) ?_
      rw [if_pos (by rfl), List.lookup_cons]
      simp
    · exact closL_has (l := r) q
section
variable {prog : Program} {w : World} {A : Around} {R : Result → Shared → Prop} {s : Shared}
theorem comp_loop {elt target iter : Expr} {ifs : List Expr} {scope : Scope} {pos : Pos} {it acc : Value} {env : Env} (I : Nat → Shared → Prop)
    (turn : ∀ n s, I n s → wpAny (model prog w) A (pyNext it) (fun r s₁ => match r with
      | none => R (.ok .next) s₁
      | some v => wpAny (model prog w) A (letOwnedTupleGo target it v) (fun _ s₂ => wpAny (model prog w) A (assign target env v) (fun _ s₃ =>
          wpAny (model prog w) A (forIn ifs true fun c r => if r = true then do let ok ← isTrue c env (eval c env); pure (ForInStep.yield ok) else pure (ForInStep.yield r)) (fun ok s₄ =>
            if ok = true then wpAny (model prog w) A (eval elt env) (fun x s₅ => wpAny (model prog w) A (call (.builtin "list.append") [acc, x]) (fun _ s₆ => ∃ m, m < n ∧ I m s₆) (fun _ _ => False) s₅) (fun _ _ => False) s₄
            else ∃ m, m < n ∧ I m s₄) (fun _ _ => False) s₃) (fun _ _ => False) s₂) (fun _ _ => False) s₁) (fun _ _ => False) s)
    (n : Nat) (h : I n s) : codeAny (model prog w) A (.compLoop (.ListComp elt [⟨target, iter, ifs, 0⟩] scope pos) 0 it acc env) R s := by
  refine codeAny_loop rfl I (fun n s hI => ?_) n h
  show wpAny _ A ((compTurn (.ListComp elt [⟨target, iter, ifs, 0⟩] scope pos) 0 it acc env).onRaise (fun x => do noteFrame x env; theTreesLotGoes x)) _ _ s
  refine wpAny_noted ?_
  rw [compTurn_list]
  have no : ∀ {α : Type} {t : Sem α} {Q : α → Shared → Prop} {E : Value → Shared → Prop} {s : Shared}, wpAny (model prog w) A t Q (fun _ _ => False) s → wpAny (model prog w) A t Q E s := fun {α t Q E s} z => wpAny_mono z (fun _ _ q => q) fun _ _ q => q.elim
  refine wpAny_bind (wpAny_standAt (wpAny_bind (no (wpAny_mono (turn n s hI) (fun r s₁ h₁ => ?_) fun _ _ z => z))))
  cases r with
  | none => exact wpAny_pure h₁
  | some v =>
    refine wpAny_bind (no (wpAny_mono h₁ (fun _ s₂ h₂ => ?_) fun _ _ z => z))
    refine wpAny_bind (no (wpAny_mono h₂ (fun _ s₃ h₃ => ?_) fun _ _ z => z))
    refine wpAny_bind (no (wpAny_mono h₃ (fun ok s₄ h₄ => ?_) fun _ _ z => z))
    cases ok with
    | false => exact wpAny_pure ⟨rfl, h₄⟩
    | true => exact wpAny_bind (wpAny_bind (no (wpAny_mono h₄ (fun x s₅ h₅ => wpAny_bind (no (wpAny_mono h₅ (fun _ s₆ h₆ => wpAny_pure (wpAny_pure ⟨rfl, h₆⟩)) fun _ _ z => z))) fun _ _ z => z)))
end
end L2

set_option maxHeartbeats 4000000
namespace L2
open PySem PySem.Spec PyProof.Rows
theorem relabel_look {scope : Scope} {env : Env} {y : Str} : (relabel scope env).names.lookup y = (scope.names.lookup y).map fun k => if (k == .free && env.scope.kind == .function && env.kindOf y == some .cell) then NameKind.cell else k := by
  unfold relabel
  show (scope.names.map _).lookup y = _
  generalize scope.names = l
  induction l with
  | nil => rfl
  | cons p r ih =>
    obtain ⟨n, k⟩ := p
    rw [List.map_cons]
    cases e : y == n with
    | true =>
      have : y = n := beq_iff_eq.mp e
      subst this
      by_cases h : (k == NameKind.free && env.scope.kind == .function && env.kindOf y == some .cell) = true
      · simp only [h, if_true, List.lookup_cons, beq_self_eq_true, Option.map_some]
      · simp only [h, if_false, List.lookup_cons, beq_self_eq_true, Option.map_some, Bool.false_eq_true]
    | false =>
      by_cases h : (k == NameKind.free && env.scope.kind == .function && env.kindOf n == some .cell) = true
      · simp only [h, if_true, List.lookup_cons, e]; exact ih
      · simp only [h, if_false, List.lookup_cons, e, Bool.false_eq_true]; exact ih
theorem mem_of_look {l : List (Str × NameKind)} {y : Str} {k : NameKind} (h : l.lookup y = some k) : (y, k) ∈ l := PySem.mem_of_lookup h
structure CompOk (scope fsc : Scope) (xs N' N : List Str) : Prop where
  kind : scope.kind = .function
  own : ∀ y ∈ scope.names, y.2 = .local → scope.names.lookup y.1 = some .local
  nocell : (scope.names.all fun y => y.2 != .cell) = true
  frees : (scope.names.all fun y => y.2 != .free || fsc.names.lookup y.1 == some .cell || fsc.names.lookup y.1 == some .free) = true
  mask : (N'.all fun y => scope.names.lookup y != some .local) = true
  same : ((N'.zip N).all fun p => p.1 == p.2 || scope.names.lookup p.1 == none) = true
  len : N'.length = N.length
def cxComp (X : Cx) (scope : Scope) (NN : List Str) (C : Addr) (s : Shared) (H : Hp) (pins : List (Addr × Obj)) (fp : List Addr) : Cx :=
  { X with N := NN, s₀ := s, H₀ := H, env := compEnvC scope (closL X.env.cells scope.names []) C X.env, outer := X.stack, stack := X.stack, ex := fp, fn := fun _ => false, pn := X.pn ++ pins, xe := fun _ _ => False }
section
variable {X : Cx} {pins : List (Addr × Obj)} {σ : St} {H : Hp} {s : Shared} {scope : Scope} {xs N' : List Str} {fp : List Addr}
theorem CompOk.free {fsc : Scope} {N : List Str} {y : Str} (c : CompOk scope fsc xs N' N) (h : scope.names.lookup y = some .free) : fsc.names.lookup y = some .cell ∨ fsc.names.lookup y = some .free := by
  have := List.all_eq_true.mp c.frees _ (mem_of_look h)
  simp at this
  exact this
theorem CompOk.vis {fsc : Scope} {N : List Str} {y : Str} {env : Env} (c : CompOk scope fsc xs N' N) (h : (relabel scope env).names.lookup y = some .cell ∨ (relabel scope env).names.lookup y = some .free) : scope.names.lookup y = some .free := by
  rw [relabel_look] at h
  cases e : scope.names.lookup y with
  | none => rw [e] at h; simp at h
  | some k =>
    have nc := List.all_eq_true.mp c.nocell _ (mem_of_look e)
    rw [e] at h
    cases k <;> simp at nc h ⊢
theorem relabel_loc {env : Env} {y : Str} (h : (relabel scope env).names.lookup y = some .local) : scope.names.lookup y = some .local := by
  rw [relabel_look] at h
  cases e : scope.names.lookup y with
  | none => rw [e] at h; simp at h
  | some k =>
    rw [e] at h
    simp only [Option.map_some, Option.some.injEq] at h
    split at h
    · cases h
    · rw [h]
theorem comp_start (I : Inv X pins σ H s) (cok : CompOk scope X.env.scope xs N' X.N) (hfp : ∀ b ∈ fp, FpOk X pins H b) (hfo : ∀ b ∈ fp, ∃ o, s.heap.get? b = some o) {h1 : Heap} {tk : Nat} (hn : h1.Ns s.heap.objs.size fun _ => none)
    (keep : ∀ b o, s.heap.get? b = some o → h1.get? b = some o) : Inv (cxComp X scope (xs ++ N') s.heap.objs.size s H pins fp) [] (List.replicate xs.length none ++ σ) H { s with heap := h1, toks := tk } := by
  have has : ∀ y, scope.names.lookup y = some .free → ∃ c, X.env.cells.lookup y = some c := fun y h => I.ok.has y (cok.free h)
  have cells : ∀ y c, (closL X.env.cells scope.names []).lookup y = some c → X.env.cells.lookup y = some c := fun y c h => by
    refine closL_in (l := scope.names) (acc := []) (fun p hp hk => ?_) (fun z => nomatch z) h
    have : X.env.scope.names.lookup p.1 = some .cell ∨ X.env.scope.names.lookup p.1 = some .free := by
      have := List.all_eq_true.mp cok.frees p hp
      simp [hk] at this
      exact this
    exact I.ok.has p.1 this
  have clt : ∀ y c, X.env.cells.lookup y = some c → c < s.heap.objs.size := fun y c h => by
    obtain ⟨v, q⟩ := I.cell y c h
    exact q.lt
  have sLs : ∀ b ∈ fp, b ∉ frs X.stack := fun b hb z => by
    rcases List.mem_cons.mp (I.stkSub b z) with q | q
    · exact (hfp b hb).2.1 q
    · exact (hfp b hb).2.2.1 q
  have cellK : ∀ c v, s.heap.IsCell c v → h1.IsCell c v := fun c v ⟨o, ho, hd⟩ => ⟨o, keep c o ho, hd⟩
  refine ⟨⟨I.ok.mod, ?_, I.ok.glob, I.ok.blt, Nat.le_refl _, fun y z c h1 h2 => I.ok.inj y z c (cells y c h1) (cells z c h2), fun y h => ?_, fun _ _ z => (nomatch z), I.ok.hd, I.ok.frames, .inl rfl, fun b hb => ⟨?_, fun y c h => ?_⟩, I.bs, Nat.le_trans I.ok.bsz I.sz, fun b o e hb => ?_, sLs, I.stack, I.stkFree⟩,
    rfl, I.bare, Un.kept keep, ⟨_, hn, fun i y v e1 e2 e3 => ?_⟩, fun y c h => ?_, I.hok.fresh (Nat.le_refl _), fun y c h => I.freeC y c (cells y c h), fun p hp => ?_, I.hok.kept keep, ?_⟩
  · show scope.kind = _; exact cok.kind
  · exact closL_has (mem_of_look (cok.vis h))
  · obtain ⟨o, e⟩ := hfo b hb
    exact Nat.ne_of_lt (Heap.lt_size e)
  · exact (hfp b hb).2.2.2.2.1 y c (cells y c h)
  · rcases (hfp b hb).2.2.2.1 with z | z
    · exact I.ok.noex b o e z
    · exact absurd (Nat.lt_of_lt_of_le (Heap.lt_size (I.ok.bs b o e).1) z) (Nat.lt_irrefl _)
  · have hi : xs.length ≤ i := by
      refine Nat.le_of_not_lt fun z => ?_
      rw [List.getElem?_append_left (by rw [List.length_replicate]; exact z), List.getElem?_replicate] at e2
      split at e2 <;> simp at e2
    have e1' : N'[i - xs.length]? = some y := by
      have e1 : (xs ++ N')[i]? = some y := e1
      rwa [List.getElem?_append_right hi] at e1
    have e2' : σ[i - xs.length]? = some (some v) := by
      rw [List.getElem?_append_right (by rw [List.length_replicate]; exact hi), List.length_replicate] at e2
      exact e2
    have mem := List.mem_of_getElem? e1'
    have hk : (relabel scope X.env).names.lookup y = some .cell ∨ (relabel scope X.env).names.lookup y = some .free := by
      rcases e3 with z | z
      · have := List.all_eq_true.mp cok.mask y mem
        rw [relabel_loc z] at this
        simp at this
      · exact z
    have hf := cok.vis hk
    have hx : X.N[i - xs.length]? = some y := by
      have hl : i - xs.length < X.N.length := by rw [← cok.len]; exact (List.getElem?_eq_some_iff.mp e1').1
      have hz : (N'.zip X.N)[i - xs.length]? = some (y, X.N[i - xs.length]) := by
        rw [List.getElem?_zip_eq_some]
        exact ⟨e1', List.getElem?_eq_getElem hl⟩
      have := List.all_eq_true.mp cok.same _ (List.mem_of_getElem? hz)
      simp [hf] at this
      rw [List.getElem?_eq_getElem hl, ← this]
    obtain ⟨m, hm, hl⟩ := I.loc
    have hv : Vis X.env.scope y := .inr (cok.free hf)
    obtain ⟨u, r, l⟩ := hl _ y v hx e2' hv
    refine ⟨u, r, .inr ⟨hk, ?_⟩⟩
    rcases l with ⟨k, _⟩ | ⟨_, c, hc, hcell⟩
    · rcases cok.free hf with z | z
      · rw [show X.env.scope.names.lookup y = some .local from k] at z; cases z
      · rw [show X.env.scope.names.lookup y = some .local from k] at z; cases z
    · obtain ⟨c', hc'⟩ := closL_has (cells := X.env.cells) (acc := []) (mem_of_look hf)
      have : c = c' := by
        have := cells y c' hc'
        rw [hc] at this
        exact Option.some.inj this
      subst this
      exact ⟨c, hc', cellK c _ hcell⟩
  · obtain ⟨v, q⟩ := I.cell y c (cells y c h)
    exact ⟨v, cellK c v q⟩
  · have hp' : p ∈ X.pn ++ pins := by simpa [cxComp] using hp
    obtain ⟨e, n, ne, nf, d⟩ := I.pin p hp'
    refine ⟨keep p.1 p.2 e, n, Nat.ne_of_lt (Heap.lt_size e), fun z => ?_, d⟩
    rcases List.mem_cons.mp (I.stkSub p.1 z) with q | q
    · exact ne q
    · exact nf q
  · show (List.replicate xs.length none ++ σ).length = (xs ++ N').length
    rw [List.length_append, List.length_append, List.length_replicate, I.len, cok.len]
def tTrue : TT := fun _ H Q => Q true H
def PTs (X : Cx) (ifs : List Expr) (t : TT) : Prop :=
  ∀ (pins : List (Addr × Obj)) (s : Shared) (σ : St) (H : Hp) (Q : Bool → Hp → Prop), Inv X pins σ H s → t σ H Q →
    wpAny (model X.prog X.w) X.A (forIn ifs true fun c r => if r = true then do let ok ← isTrue c X.env (eval c X.env); pure (ForInStep.yield ok) else pure (ForInStep.yield r)) (TP X pins σ Q) X.xe s
theorem pts_nil : PTs X [] tTrue := fun _ _ _ H _ I h => wpAny_tests_nil ⟨H, I, h⟩
theorem pts_one {c : Expr} {t : TT} (h : PT X c t) : PTs X [c] t := fun pins s σ H Q I hw => wpAny_tests_one (h pins s σ H Q I hw)
def tComp (k : Nat) (wi : TI) (g : TG) (tc : TT) (te : TE) : TE := fun σ H Q => wi σ H fun J H1 => ∀ acc, H1 acc = none → ∃ (W : Nat → List V → Hp → Prop) (n : Nat), W 0 [] (upd H1 acc (.lst [])) ∧
  ∀ i ys H2, W i ys H2 → H2 acc = some (.lst ys) ∧ ys.length < sizeLine ∧ ((i = n ∧ J.stop i H2 ∧ Q (.ref acc) H2) ∨ (i < n ∧ J.go i H2 ∧ ∀ x H3, J.yld i H2 x H3 → ∀ τ : St, τ.length = k → g x (τ ++ σ) H3 fun τ2 H4 =>
    (∃ τ' : St, τ'.length = k ∧ τ2 = τ' ++ σ) ∧ tc τ2 H4 fun b H5 => if b = true then te τ2 H5 fun v H6 => H6 acc = some (.lst ys) ∧ W (i + 1) (ys ++ [v]) (upd H6 acc (.lst (ys ++ [v]))) else W (i + 1) ys H5))
theorem comp_back (I : Inv X pins σ H s) (hfp : ∀ b ∈ fp, FpOk X pins H b) {NN : List Str} {pins' : List (Addr × Obj)} {τ : St} {H' : Hp} {s' : Shared} (J : Inv (cxComp X scope NN s.heap.objs.size s H pins fp) pins' τ H' s') : Inv X pins σ H' s' :=
  I.call' (ch := fp) (J.os.trans rfl) J.base J.hok J.bare fun b hb => ⟨(hfp b hb).2.2.2.1, (hfp b hb).2.1, (hfp b hb).2.2.2.2.1, (hfp b hb).2.2.2.2.2⟩
end
end L2

set_option maxHeartbeats 4000000
namespace L2
open PySem PySem.Spec PyProof.Rows
section
variable {X : Cx} {scope : Scope} {xs N' : List Str} {target iter elt : Expr} {ifs : List Expr} {pos : Pos} {wi : TI} {g : TG} {tc : TT} {te : TE}
theorem comp_block (hc : X.calm = true) (cok : CompOk scope X.env.scope xs N' X.N) (hi : PI X target iter wi)
    (hg : ∀ C s H pins fp, PG (cxComp X scope (xs ++ N') C s H pins fp) target g) (ht : ∀ C s H pins fp, PTs (cxComp X scope (xs ++ N') C s H pins fp) ifs tc) (he : ∀ C s H pins fp, PE (cxComp X scope (xs ++ N') C s H pins fp) elt te)
    {pins : List (Addr × Obj)} {s : Shared} {σ : St} {H : Hp} {Q : VK} {RR : Value → Addr → Result → Shared → Prop} (I : Inv X pins σ H s) (h : tComp xs.length wi g tc te σ H Q)
    (hRR : ∀ a C m H' s', Inv X pins σ H' s' → FpOk X pins H' C → s'.heap.Ns C m → Q (.ref a) H' → RR (.ref a) C (.ok .next) s') :
    wpAny (model X.prog X.w) X.A (eval iter X.env) (fun x s₁ => wpAny (model X.prog X.w) X.A (pyIter x) (fun it s₂ => wpAny (model X.prog X.w) X.A (newList []) (fun acc s₃ =>
      wpAny (model X.prog X.w) X.A (newFunctionEnv scope X.env.globals (closL X.env.cells scope.names []) [] X.env.qual none .none (some X.env)) (fun cenv s₄ =>
        codeAny (model X.prog X.w) X.A (.compStart (.ListComp elt [⟨target, iter, ifs, 0⟩] scope pos) 0 it acc { cenv with scope := relabel scope X.env }) (RR acc cenv.locals) s₄) X.xe s₃) X.xe s₂) X.xe s₁) X.xe s := by
  refine thn (hi pins s σ H _ I h) fun v s1 h1 => thn h1 fun itv s2 h2 => ?_
  obtain ⟨it, fp, tn, J, H2, e, I2, T, st2, f2, h3⟩ := h2
  subst e
  have ob2 : ∀ b ∈ fp, ∃ o, s2.heap.get? b = some o := fun b hb => let ⟨o, q, _⟩ := T.obj _ _ st2 b hb; ⟨o, q⟩
  have fresh2 : H2 s2.heap.objs.size = none := I2.fresh
  have I3 := I2.lnew (its := []) (ys := []) (t' := s2.toks) .nil (Nat.zero_le _)
  refine wpAny_newObj_type (T := "list") ?_
  obtain ⟨W, n, w0, turn⟩ := h3 s2.heap.objs.size fresh2
  generalize hs3 : ({ s2 with heap := s2.heap.push { cls := .type "list", data := .seq ([] : List Value).toArray }, toks := s2.toks } : Shared) = s3 at I3
  have sub3 : ∀ b o, s2.heap.get? b = some o → s3.heap.get? b = some o := fun b o q => by rw [← hs3]; exact Heap.get?_push_of_some _ q
  have f3 : ∀ b ∈ fp, FpOk X pins (upd H2 s2.heap.objs.size (.lst [])) b := fun b hb => by
    obtain ⟨o, q⟩ := ob2 b hb
    obtain ⟨q0, q1⟩ := f2 b hb
    exact ⟨by rw [upd_ne (Nat.ne_of_lt (Heap.lt_size q))]; exact q0, q1⟩
  have ob3 : ∀ b ∈ fp, ∃ o, s3.heap.get? b = some o := fun b hb => let ⟨o, q⟩ := ob2 b hb; ⟨o, sub3 b o q⟩
  have st3 : tn 0 s3.heap := T.keep _ _ _ st2 fun b _ o q => sub3 b o q
  refine wpAny_newFunctionEnv (fun y hy z => ?_) (fun y hy => nomatch hy) (fun h4 hns hsb => ?_) cok.kind
  · have := List.all_eq_true.mp cok.nocell y hy
    rw [z] at this
    simp at this
  have keep4 : ∀ b o, s3.heap.get? b = some o → h4.get? b = some o := fun b o q => (hsb.2 b (Nat.ne_of_lt (Heap.lt_size q))).trans (Heap.get?_push_of_some _ q)
  have J4 := comp_start (tk := s3.toks + ([] : List (Str × Value)).length) I3 cok f3 ob3 hns keep4
  have st4 : tn 0 h4 := T.keep _ _ _ st3 fun b _ o q => keep4 b o q
  generalize hY : cxComp X scope (xs ++ N') s3.heap.objs.size s3 (upd H2 s2.heap.objs.size (.lst [])) pins fp = Y at J4
  have hP : Y.prog = X.prog := by rw [← hY]; rfl
  have hw : Y.w = X.w := by rw [← hY]; rfl
  have hK : Y.K = X.K := by rw [← hY]; rfl
  have hcY : Y.calm = true := by rw [← hY]; exact hc
  have stat : ∀ {H' : Hp}, (∀ b ∈ fp, H' b = none) → ∀ b ∈ fp, FpOk Y [] H' b := fun {H'} hn b hb => by
    obtain ⟨o, q⟩ := ob3 b hb
    rw [← hY]
    refine ⟨hn b hb, Nat.ne_of_lt (Heap.lt_size q), fun z => ?_, .inl hb, fun y c hy => ?_, fun p hp => ?_⟩
    · rcases List.mem_cons.mp (I3.stkSub b z) with w | w
      · exact (f3 b hb).2.1 w
      · exact (f3 b hb).2.2.1 w
    · have hx := J4.ok.exf b (by rw [← hY]; exact hb)
      rw [← hY] at hx
      exact hx.2 y c hy
    · have hp' : p ∈ X.pn ++ pins := by simpa [cxComp] using hp
      exact (f3 b hb).2.2.2.2.2 p hp'
  have loop : ∀ s5 : Shared, Inv Y [] (List.replicate xs.length none ++ σ) (upd H2 s2.heap.objs.size (.lst [])) s5 → tn 0 s5.heap →
      codeAny (model X.prog X.w) X.A (.compLoop (.ListComp elt [⟨target, iter, ifs, 0⟩] scope pos) 0 (.ref it) (.ref s2.heap.objs.size) Y.env) (RR (.ref s2.heap.objs.size) s3.heap.objs.size) s5 := by
    intro s5 J5 st5
    refine comp_loop (fun k s' => ∃ (i : Nat) (ys : List V) (H' : Hp) (τ : St), k + i = n ∧ τ.length = xs.length ∧ Inv Y [] (τ ++ σ) H' s' ∧ tn i s'.heap ∧ (∀ b ∈ fp, H' b = none) ∧ W i ys H') ?_ n
      ⟨0, [], _, List.replicate xs.length none, rfl, List.length_replicate .., J5, st5, fun b hb => (f3 b hb).1, w0⟩
    rintro k s6 ⟨i, ys, H6, τ, hk, hτ, J6, st6, fr6, w6⟩
    obtain ⟨hacc, hlen, hcase⟩ := turn i ys H6 w6
    rcases hcase with ⟨hin, stop, hq⟩ | ⟨hin, go, step⟩
    · refine thn (A := X.A) (by have := T.done Y hP hw hK hcY i [] s6 (τ ++ σ) H6 (fun _ _ => False) J6 (stat fr6) st6 stop; rw [← hY] at this; exact this) fun r s7 q7 => ?_
      obtain ⟨hr, J7⟩ := q7
      subst hr
      rw [hY] at J7
      obtain ⟨m7, hn7, _⟩ := J7.loc
      have e1 : Y.env.locals = s3.heap.objs.size := by rw [← hY]; rfl
      rw [e1] at hn7
      have J7' : Inv X pins σ H6 s7 := comp_back I3 f3 (by rw [hY]; exact J7)
      refine hRR _ _ m7 H6 s7 J7' ?_ hn7 hq
      have e2 := J7.free
      rw [e1] at e2
      exact I3.fpOk (Nat.le_refl _) e2
    · refine thn (A := X.A) (by have := T.item Y hP hw hK hcY i [] s6 (τ ++ σ) H6 (fun _ _ => False) J6 (stat fr6) st6 go; rw [← hY] at this; exact this) fun r s7 q7 => ?_
      obtain ⟨u, hr, q7⟩ := q7
      subst hr
      have hA : Y.A = X.A := by rw [← hY]; rfl
      rw [hY] at q7
      rw [hA] at q7
      refine thn q7 fun _ s8 q8 => ?_
      obtain ⟨x8, H8, J8, r8, y8, st8, fr8⟩ := q8
      have J8' := J8.pinned (stat fr8) (T.obj _ _ st8)
      have g8 := hg s3.heap.objs.size s3 (upd H2 s2.heap.objs.size (.lst [])) pins fp
      have t8 := ht s3.heap.objs.size s3 (upd H2 s2.heap.objs.size (.lst [])) pins fp
      have e8 := he s3.heap.objs.size s3 (upd H2 s2.heap.objs.size (.lst [])) pins fp
      have a8 : ∀ {Z : Cx}, Z = Y → MtM Z "list.append" rAppend := fun {Z} _ => mt_append
      have hxe : Y.xe = fun _ _ => False := by rw [← hY]; rfl
      rw [hY] at g8 t8 e8
      have back : ∀ {τ2 : St} {H9 : Hp} {s9 : Shared}, Inv Y ([] ++ pinsAt fp s8.heap) τ2 H9 s9 → Inv Y [] τ2 H9 s9 ∧ tn (i + 1) s9.heap ∧ ∀ b ∈ fp, H9 b = none := fun {τ2 H9 s9} J9 => by
        refine ⟨J9.unpinned, T.keep _ _ _ st8 fun b hb o q => (J9.pin (b, o) (List.mem_append_right _ (List.mem_append_right _ (mem_pinsAt hb q)))).1, fun b hb => ?_⟩
        obtain ⟨o, q, d⟩ := T.obj _ _ st8 b hb
        exact (J9.pin (b, o) (List.mem_append_right _ (List.mem_append_right _ (mem_pinsAt hb q)))).2.1
      have z1 := g8 _ s8 (τ ++ σ) H8 x8 u _ J8' r8 (step x8 H8 y8 τ hτ)
      rw [hP, hw, hA, hxe] at z1
      refine thn z1 fun _ s9 q9 => ?_
      obtain ⟨τ9, H9, J9, ⟨τ', hτ', e9⟩, q9⟩ := q9
      subst e9
      have z2 := t8 _ s9 (τ' ++ σ) H9 _ J9 q9
      rw [hP, hw, hA, hxe] at z2
      refine thn z2 fun b s10 q10 => ?_
      obtain ⟨H10, J10, q10⟩ := q10
      cases b with
      | false =>
        rw [if_neg Bool.false_ne_true] at q10 ⊢
        obtain ⟨b1, b2, b3⟩ := back J10
        exact ⟨k - 1, by omega, i + 1, ys, H10, τ', by omega, hτ', b1, b2, b3, q10⟩
      | true =>
        rw [if_pos rfl] at q10 ⊢
        have z3 := e8 _ s10 (τ' ++ σ) H10 _ J10 q10
        rw [hP, hw, hA, hxe] at z3
        refine thn z3 fun y s11 q11 => ?_
        obtain ⟨v11, H11, J11, r11, hacc11, w11⟩ := q11
        have z4 := a8 rfl _ s11 (τ' ++ σ) H11 (.ref s2.heap.objs.size) [v11] (.ref s2.heap.objs.size) [y] (fun _ H' => W (i + 1) (ys ++ [v11]) H') J11 rfl (.cons r11 .nil) ⟨_, ys, v11, rfl, rfl, hacc11, hlen, w11⟩
        rw [hP, hw, hA, hxe] at z4
        refine thn z4 fun _ s12 q12 => ?_
        obtain ⟨_, H12, J12, _, w12⟩ := q12
        obtain ⟨b1, b2, b3⟩ := back J12
        exact ⟨k - 1, by omega, i + 1, ys ++ [v11], H12, τ', by omega, hτ', b1, b2, b3, w12⟩
  have env4 : ({ newEnv scope s3.heap.objs.size X.env.globals (closL X.env.cells scope.names []) X.env.qual none .none (some X.env) X.env.builtins with scope := relabel scope X.env } : Env) = Y.env := by rw [← hY]; rfl
  have l4 := loop _ J4 st4
  rw [← env4] at l4
  exact codeAny_compStart_list l4 (T.self _ 0 _ _ _ st4 l4)
theorem clos_of {pins : List (Addr × Obj)} {s : Shared} {σ : St} {H : Hp} (I : Inv X pins σ H s) (cok : CompOk scope X.env.scope xs N' X.N) : closureFor scope X.env = pure (closL X.env.cells scope.names []) := by
  refine clos_eq fun p hp hk => ?_
  have : X.env.scope.names.lookup p.1 = some .cell ∨ X.env.scope.names.lookup p.1 = some .free := by
    have := List.all_eq_true.mp cok.frees p hp
    simp [hk] at this
    exact this
  exact I.ok.has p.1 this
theorem pe_comp (hc : X.calm = true) (cok : CompOk scope X.env.scope xs N' X.N) (hi : PI X target iter wi)
    (hg : ∀ C s H pins fp, PG (cxComp X scope (xs ++ N') C s H pins fp) target g) (ht : ∀ C s H pins fp, PTs (cxComp X scope (xs ++ N') C s H pins fp) ifs tc) (he : ∀ C s H pins fp, PE (cxComp X scope (xs ++ N') C s H pins fp) elt te)
    (hs : ∀ x, foldedSetIterable iter X.env x = pure x := by intro _; rfl) : PE X (.ListComp elt [⟨target, iter, ifs, 0⟩] scope pos) (tComp xs.length wi g tc te) := by
  intro pins s σ H Q I h
  rw [eval_ListComp]
  refine wpAny_comprehension_free (use := none) rfl hs (clos_of I cok) cok.kind cok.own (comp_block hc cok hi hg ht he I h fun a C m H' s' J fC hn q => ⟨m, hn, fun h' hs' => ?_⟩)
  obtain ⟨f0, f1, f2, f3, f4, f5⟩ := fC
  exact ⟨.ref a, H', J.turned (t' := s'.toks) (fun b o hb e => (hs'.2 b hb).trans e) f0 f1 f3 f4 f5, rfl, q⟩
theorem ps_setC {j : Nat} {y : Str} {py spos : Pos} (hN : X.N.Nodup) (hj : X.N[j]? = some y) (hy : X.env.scope.names.lookup y = some .local) (hc : X.calm = true) (cok : CompOk scope X.env.scope xs N' X.N) (hi : PI X target iter wi)
    (hg : ∀ C s H pins fp, PG (cxComp X scope (xs ++ N') C s H pins fp) target g) (ht : ∀ C s H pins fp, PTs (cxComp X scope (xs ++ N') C s H pins fp) ifs tc) (he : ∀ C s H pins fp, PE (cxComp X scope (xs ++ N') C s H pins fp) elt te)
    (hsw : swapsWith (.ListComp elt [⟨target, iter, ifs, 0⟩] scope pos) (some (.Name y py)) spos.line X.env = pure true := by rfl) (hs : ∀ x, foldedSetIterable iter X.env x = pure x := by intro _; rfl) :
    PS X (.Assign [.Name y py] (.ListComp elt [⟨target, iter, ifs, 0⟩] scope pos) spos) (tAsg (tComp xs.length wi g tc te) (gName j)) := by
  intro pins s σ H D I h
  rw [exec_Assign_Name_used _ _ _ _ hsw]
  refine wpAny_bind (wpAny_standAt (wpAny_bind ?_))
  show wpAny _ X.A (do let _ ← comprehension (.ListComp elt [⟨target, iter, ifs, 0⟩] scope pos) scope X.env _ (newList []) false (eval iter X.env) (some (assign (.Name y py) X.env))) _ _ s
  refine wpAny_bind (wpAny_mono (wpAny_comprehension_free (use := some (assign (.Name y py) X.env)) (Q := fun _ s' => SP X pins D .next s') rfl hs (clos_of I cok) cok.kind cok.own
    (comp_block hc cok hi hg ht he I h fun a C m H' s' J fC hn q => ?_)) (fun _ s' hq => wpAny_pure (wpAny_pure hq)) fun _ _ e => e)
  obtain ⟨f0, f1, f2, f3, f4, f5⟩ := fC
  refine wpAny_assign_Name (store_ok2 J hN hj (.inl hy) (v := .ref a) rfl (fun s2 J2 sb => ?_) (.inr hy))
  obtain ⟨b, sb, hb⟩ := sb
  have nb : C ≠ b := by
    rcases hb with z | z
    · rw [z]; exact f1
    · exact Ne.symm (f4 y b z)
  refine ⟨m, hn.sameBut sb nb, fun h' hs' => ⟨_, H', J2.turned (t' := s2.toks) (fun b o hb e => (hs'.2 b hb).trans e) f0 f1 f3 f4 f5, q⟩⟩
end
end L2

set_option maxHeartbeats 4000000
namespace L2
open PySem PySem.Spec PyProof.Rows
def RawF (K : PySem.W.Frag) (mg : Str → Option Value) (x : Str) (st : Stmt) (ps : List Str) (dvs : List V) : Prop :=
  ∃ (f : Addr) (oc : Value) (od : Option Addr) (dV kV doc pm : Value) (an : Option Addr) (cdv ct : Value) (osl : Array (Option Value)) (ds : List Value),
    K.lookup f = some ⟨oc, od, .func (PySem.W.fnOf x x (defArgs st) (defBody st) (defScope st) dV kV doc pm an cdv ct), osl⟩ ∧ PySem.W.codeIn K cdv x = true ∧ PySem.W.keepIn K (.ref f) = true ∧
    mg x = some (.ref f) ∧ Binds K (PySem.W.fnOf x x (defArgs st) (defBody st) (defScope st) dV kV doc pm an cdv ct) ps ds ∧ Vals dvs ds
def RawM (K : PySem.W.Frag) (C : Addr) (m qual : Str) (st : Stmt) (ps : List Str) (dvs : List V) : Prop :=
  ∃ (f : Addr) (oc : Value) (od : Option Addr) (dV kV doc pm : Value) (an : Option Addr) (cdv ct : Value) (osl : Array (Option Value)) (ds : List Value),
    K.lookup f = some ⟨oc, od, .func (PySem.W.fnOf m qual (defArgs st) (defBody st) (defScope st) dV kV doc pm an cdv ct), osl⟩ ∧ PySem.W.codeIn K cdv qual = true ∧ Meth K C m f ∧
    Binds K (PySem.W.fnOf m qual (defArgs st) (defBody st) (defScope st) dV kV doc pm an cdv ct) ps ds ∧ Vals dvs ds
def RawI (K : PySem.W.Frag) (C : Addr) (qual : Str) (st : Stmt) (ps : List Str) (dvs : List V) : Prop :=
  ∃ (f : Addr) (oc : Value) (od : Option Addr) (dV kV doc pm : Value) (an : Option Addr) (cdv ct : Value) (osl : Array (Option Value)) (ds : List Value),
    K.lookup f = some ⟨oc, od, .func (PySem.W.fnOf "__init__" qual (defArgs st) (defBody st) (defScope st) dV kV doc pm an cdv ct), osl⟩ ∧ PySem.W.codeIn K cdv qual = true ∧ Mk K C f ∧
    Binds K (PySem.W.fnOf "__init__" qual (defArgs st) (defBody st) (defScope st) dV kV doc pm an cdv ct) ps ds ∧ Vals dvs ds
def HasFn (P : Program) (w : World) (K : PySem.W.Frag) (mg : Str → Option Value) (base : Heap) (k : Nat) (x : Str) (ps : List Str) (sp : Sp) (dvs : List V) : Prop :=
  ∃ f fd ds, FnOk P w K mg base (CXE P w) k f fd ps sp ∧ mg x = some (.ref f) ∧ PySem.W.keepIn K (.ref f) = true ∧ Binds K fd ps ds ∧ Vals dvs ds
def HasMe (P : Program) (w : World) (K : PySem.W.Frag) (mg : Str → Option Value) (base : Heap) (C : Addr) (k : Nat) (m : Str) (ps : List Str) (sp : Sp) (dvs : List V) : Prop :=
  ∃ f fd ds, FnOk P w K mg base (CXE P w) k f fd ps sp ∧ Meth K C m f ∧ Binds K fd ps ds ∧ Vals dvs ds
def HasMk (P : Program) (w : World) (K : PySem.W.Frag) (mg : Str → Option Value) (base : Heap) (C : Addr) (k : Nat) (ps : List Str) (sp : Sp) (dvs : List V) : Prop :=
  ∃ f fd ds, FnOk P w K mg base (CXE P w) k f fd ps sp ∧ Mk K C f ∧ Binds K fd ps ds ∧ Vals dvs ds
section
variable {P : Program} {w : World} {K : PySem.W.Frag} {mg : Str → Option Value} {base : Heap} {C : Addr} {x m qual : Str} {st : Stmt} {N ps : List Str} {dvs : List V} {k : Nat} {sp : Sp}
theorem RawF.ok (R : RawF K mg x st ps dvs) (S : FnScope N ps (defScope st)) (len : ∀ vs H Q E, sp vs H Q E → vs.length = ps.length)
    (hbody : ∀ (f : Addr) (cdv : Value) (A : Around) (outer : List Env) (s : Shared) (H : Hp) (vs : List V) (Q : VK) (E : XK), Room k (A.deeper (envOfC x (defScope st) s.heap.objs.size f cdv)) → sp vs H Q E →
      ∃ t, PSs (cxOf (CXE P w) P w K mg base N x (defScope st) f cdv A outer s H E) (defBody st) t ∧ t { nx := fun _ H' => Q .non H', rt := Q } (start N vs) H) : HasFn P w K mg base (k + 1) x ps sp dvs := by
  obtain ⟨f, oc, od, dV, kV, doc, pm, an, cdv, ct, osl, ds, lk, hcd, kp, hm, hb, hd⟩ := R
  exact ⟨f, _, ds, fn_of lk hcd S len fun A outer s H vs Q E hr hsp => hbody f cdv A outer s H vs Q E hr hsp, hm, kp, hb, hd⟩
theorem RawM.ok (R : RawM K C m qual st ps dvs) (S : FnScope N ps (defScope st)) (len : ∀ vs H Q E, sp vs H Q E → vs.length = ps.length)
    (hbody : ∀ (f : Addr) (cdv : Value) (A : Around) (outer : List Env) (s : Shared) (H : Hp) (vs : List V) (Q : VK) (E : XK), Room k (A.deeper (envOfC qual (defScope st) s.heap.objs.size f cdv)) → sp vs H Q E →
      ∃ t, PSs (cxOf (CXE P w) P w K mg base N qual (defScope st) f cdv A outer s H E) (defBody st) t ∧ t { nx := fun _ H' => Q .non H', rt := Q } (start N vs) H) : HasMe P w K mg base C (k + 1) m ps sp dvs := by
  obtain ⟨f, oc, od, dV, kV, doc, pm, an, cdv, ct, osl, ds, lk, hcd, hm, hb, hd⟩ := R
  exact ⟨f, _, ds, fn_of lk hcd S len fun A outer s H vs Q E hr hsp => hbody f cdv A outer s H vs Q E hr hsp, hm, hb, hd⟩
theorem RawI.ok (R : RawI K C qual st ps dvs) (S : FnScope N ps (defScope st)) (len : ∀ vs H Q E, sp vs H Q E → vs.length = ps.length)
    (hbody : ∀ (f : Addr) (cdv : Value) (A : Around) (outer : List Env) (s : Shared) (H : Hp) (vs : List V) (Q : VK) (E : XK), Room k (A.deeper (envOfC qual (defScope st) s.heap.objs.size f cdv)) → sp vs H Q E →
      ∃ t, PSs (cxOf (CXE P w) P w K mg base N qual (defScope st) f cdv A outer s H E) (defBody st) t ∧ t { nx := fun _ H' => Q .non H', rt := Q } (start N vs) H) : HasMk P w K mg base C (k + 1) ps sp dvs := by
  obtain ⟨f, oc, od, dV, kV, doc, pm, an, cdv, ct, osl, ds, lk, hcd, hm, hb, hd⟩ := R
  exact ⟨f, _, ds, fn_of lk hcd S len fun A outer s H vs Q E hr hsp => hbody f cdv A outer s H vs Q E hr hsp, hm, hb, hd⟩
end
section
variable {X : Cx} {C : Addr} {k : Nat} {ps : List Str} {sp : Sp} {dvs : List V} {E : St → XK} {x m : Str} {p pos apos : Pos} {e o : Expr} {es : List Expr} {ta : TE} {t : TA}
theorem pe_fn (h : HasFn X.prog X.w X.K X.mg X.base k x ps sp dvs) (hr : Room k X.A) (hg : Gl X x) (hx : PassesX (CXE X.prog X.w) X E)
    (ha : PA X (e :: es) t) (hdb : (x == ("__debug__" : Str)) = false := by decide) (he : starEach (e :: es) X.env = (false, eval e X.env) :: starEach es X.env := by rfl) (hpl : (backTo pos (starEach es X.env)).any (·.1) = false := by rfl) :
    PE X (.Call (.Name x p) (e :: es) [] pos) (tCallX sp dvs E t) := by
  obtain ⟨f, fd, ds, F, hm, hk, hb, hd⟩ := h
  exact pe_callX F hr hg hm hk hb hd hx ha hdb he hpl
theorem pe_me {pl : Sem Bool} (he : PE X o ta) (c : Cls X.K C) (h : HasMe X.prog X.w X.K X.mg X.base C k m ps sp dvs) (hr : Room k X.A) (hx : PassesX (CXE X.prog X.w) X E) (ha : PA X (e :: es) t)
    (hst : starEach (e :: es) X.env = (false, eval e X.env) :: starEach es X.env := by rfl) (hpl : (backTo pos (starEach es X.env)).any (·.1) = false := by rfl)
    (ht : eval (.Call (.Attribute o m apos) (e :: es) [] pos) X.env = (do
      let ov ← eval o X.env
      standAt apos.atName
      let (f, first) ← holding [ov] (getMethod ov m pl)
      callWith pos f first (backTo pos (starEach (e :: es) X.env)) (backToKw pos (keywordEach [] X.env))) := by rfl) :
    PE X (.Call (.Attribute o m apos) (e :: es) [] pos) (tMethX C m sp dvs E ta t) := by
  obtain ⟨f, fd, ds, F, hm, hb, hd⟩ := h
  exact pe_methX he c hm F hr hb hd hx ha hst hpl ht
theorem pe_me0 {pl : Sem Bool} (he : PE X o ta) (c : Cls X.K C) (h : HasMe X.prog X.w X.K X.mg X.base C k m ps sp dvs) (hr : Room k X.A) (hx : PassesX (CXE X.prog X.w) X E)
    (ht : eval (.Call (.Attribute o m apos) [] [] pos) X.env = (do
      let ov ← eval o X.env
      standAt apos.atName
      let (f, first) ← holding [ov] (getMethod ov m pl)
      callWith pos f first (backTo pos (starEach [] X.env)) (backToKw pos (keywordEach [] X.env))) := by rfl) :
    PE X (.Call (.Attribute o m apos) [] [] pos) (tMethX C m sp dvs E ta tNil) := by
  obtain ⟨f, fd, ds, F, hm, hb, hd⟩ := h
  exact pe_methX0 he c hm F hr hb hd hx ht
theorem pe_mk (h : HasMk X.prog X.w X.K X.mg X.base C k ps sp dvs) (hr : Room (k + 1) X.A) (hg : Gl X x) (hm : X.mg x = some (.ref C)) (hx : PassesX (CXE X.prog X.w) X E)
    (ha : PA X (e :: es) t) (hdb : (x == ("__debug__" : Str)) = false := by decide) (he : starEach (e :: es) X.env = (false, eval e X.env) :: starEach es X.env := by rfl) (hpl : (backTo pos (starEach es X.env)).any (·.1) = false := by rfl) :
    PE X (.Call (.Name x p) (e :: es) [] pos) (tMakeX C sp dvs E t) := by
  obtain ⟨f, fd, ds, F, M, hb, hd⟩ := h
  exact pe_makeX M F hr hg hm hb hd hx ha hdb he hpl
theorem pe_globI {n : Int} (hg : Gl X x) (hm : ∃ t, X.mg x = some (.int n t)) (hd : (x == ("__debug__" : Str)) = false := by decide) : PE X (.Name x pos) (tC (.int n)) := by
  obtain ⟨t, hm⟩ := hm
  exact pe_glob hg hm ⟨t, rfl⟩ hd
end
section
variable {X : Cx} {K : PySem.W.Frag}
theorem ix_listK (h : X.K = K) : IxR X (rIxL K) := by subst h; exact ix_list
end
theorem iteN {c A B : Prop} [Decidable c] (h1 : ¬ c → A) (h2 : c → B) : if (!decide c) = true then A else B := by
  by_cases h : c
  · rw [decide_eq_true h]; exact iteF (h2 h)
  · rw [decide_eq_false h]; exact iteT (h1 h)
theorem iteD {c A B : Prop} [Decidable c] (h1 : c → A) (h2 : ¬ c → B) : if decide c = true then A else B := by
  by_cases h : c
  · rw [decide_eq_true h]; exact iteT (h1 h)
  · rw [decide_eq_false h]; exact iteF (h2 h)
theorem iteI {i j : Int} {A B : Prop} (h1 : i = j → A) (h2 : ¬ i = j → B) : if decide (V.int i = V.int j) = true then A else B :=
  iteD (fun z => h1 (by injection z)) fun z => h2 fun q => z (by rw [q])
theorem iteNI {i j : Int} {A B : Prop} (h1 : ¬ i = j → A) (h2 : i = j → B) : if (!decide (V.int i = V.int j)) = true then A else B :=
  iteN (fun z => h1 fun q => z (by rw [q])) fun z => h2 (by injection z)
theorem one_line : 1 ≤ sizeLine := by rw [sizeLine_eq]; decide
theorem small_line {n : Nat} (h : n ≤ 1000) : n ≤ sizeLine := by rw [sizeLine_eq]; omega
theorem same_upd {H : Hp} {q : Addr} {u : HO} (h : H q = none) : Same H (upd H q u) := fun b o z => by rw [upd_ne (ne_of_none z h)]; exact z
theorem kit_self (K : PySem.W.Frag) (v : Value) : PySem.W.kitOne K v v = some true := by
  unfold PySem.W.kitOne
  rw [if_pos (by simp)]
theorem kit_ib (K : PySem.W.Frag) : PySem.W.kitOne K (.type "int") (.type "bool") = some false := by
  unfold PySem.W.kitOne PySem.W.kitCls
  rw [if_neg (by decide)]
  have h1 : PySem.W.kitMeta "bool" = true := by decide +kernel
  simp only [h1, if_true]
  show Option.map (fun x => x.contains (Value.type "bool")) (fastBuiltinMro "int") = some false
  decide +kernel
theorem filter_tt {α : Type} (l : List α) : l.filter (fun _ => true) = l := List.filter_eq_self.mpr fun _ _ => rfl
theorem atI_getD {ns : List Int} {n : Int} (h0 : 0 ≤ n) (h1 : n < ns.length) : atI (ns.map V.int) n = some (.int (ns.getD n.toNat 0)) := by
  have e : n = ((n.toNat : Nat) : Int) := by omega
  have hl : n.toNat < ns.length := by omega
  rw [e]
  refine atI_nat ?_
  rw [List.getElem?_map, List.getElem?_eq_getElem hl, Int.toNat_natCast, List.getD_eq_getElem?_getD, List.getElem?_eq_getElem hl]
  rfl
theorem ixN_map {ns : List Int} {n : Int} (h0 : 0 ≤ n) (h1 : n < ns.length) : ixN (ns.map V.int).length n = some n.toNat := by
  unfold ixN
  rw [List.length_map, if_pos h0, if_pos h1]
theorem map_set (ns : List Int) (k : Nat) (v : Int) : (ns.map V.int).set k (V.int v) = (ns.set k v).map V.int := by
  rw [List.map_set]
theorem getD_set_self {ns : List Int} {k : Nat} {v : Int} (h : k < ns.length) : (ns.set k v).getD k 0 = v := by
  rw [List.getD_eq_getElem?_getD, List.getElem?_set_self h]
  rfl
theorem getD_out {ns : List Int} {k : Nat} (h : ns.length ≤ k) : ns.getD k 0 = 0 := by
  rw [List.getD_eq_getElem?_getD, List.getElem?_eq_none h]
  rfl
theorem rep_zero (k : Nat) : (List.replicate k [V.int 0]).flatten = (List.replicate k (0 : Int)).map V.int := by
  induction k with
  | zero => rfl
  | succ k ih => rw [List.replicate_succ, List.flatten_cons, ih, List.replicate_succ, List.map_cons]; rfl
theorem inV_ints (k : Int) : ∀ ns : List Int, inV (.int k) (ns.map V.int) = decide (k ∈ ns)
  | [] => rfl
  | n :: r => by
    have ih := inV_ints k r
    unfold inV at *
    rw [List.map_cons, List.any_cons, ih]
    show ((n == k) || decide (k ∈ r)) = _
    rw [Bool.eq_iff_iff]
    simp only [Bool.or_eq_true, beq_iff_eq, decide_eq_true_eq, List.mem_cons]
    constructor
    · rintro (h | h)
      · exact .inl h.symm
      · exact .inr h
    · rintro (h | h)
      · exact .inl h.symm
      · exact .inr h
theorem cut_ints (ns : List Int) (lo hi : Option Int) : ∃ ms : List Int, cutV (ns.map V.int) lo hi = ms.map V.int ∧ ms.length ≤ ns.length := by
  unfold cutV
  refine ⟨(ns.drop (HT.sIx (ns.map V.int).length 0 lo)).take (HT.sIx (ns.map V.int).length (ns.map V.int).length hi - HT.sIx (ns.map V.int).length 0 lo), ?_, ?_⟩
  · rw [List.map_take, List.map_drop]
  · rw [List.length_take, List.length_drop]; omega
theorem mem_ints {ms : List Int} {i : Nat} {y : V} (h : (ms.map V.int)[i]? = some y) : ∃ c : Int, y = .int c ∧ ms[i]? = some c := by
  rw [List.getElem?_map] at h
  cases e : ms[i]? with
  | none => rw [e] at h; cases h
  | some c => rw [e] at h; exact ⟨c, (Option.some.inj h).symm, rfl⟩
end L2

set_option maxHeartbeats 4000000
namespace L2
open PySem PySem.Spec PyProof.Rows
section
variable {tc : TT} {te : TE} {σ : St} {H1 : Hp} {acc : Addr} {QH : Hp → Prop}
theorem comp_range {lo : Int} {n k : Nat} (hacc : H1 acc = none) (f : Nat → V) (p : Nat → Bool) (hn : n < sizeLine)
    (hc : ∀ (i : Nat) (ys : List V), i < n → ∀ R : Bool → Hp → Prop, R (p i) (upd H1 acc (.lst ys)) → tc (some (.int (lo + i)) :: σ) (upd H1 acc (.lst ys)) R)
    (he : ∀ (i : Nat) (ys : List V), i < n → p i = true → ∀ R : VK, R (f i) (upd H1 acc (.lst ys)) → te (some (.int (lo + i)) :: σ) (upd H1 acc (.lst ys)) R)
    (q : QH (upd H1 acc (.lst (((List.range n).filter p).map f)))) (hk : k = 1 := by rfl) : ∃ (W : Nat → List V → Hp → Prop) (n' : Nat), W 0 [] (upd H1 acc (.lst [])) ∧
  ∀ i ys H2, W i ys H2 → H2 acc = some (.lst ys) ∧ ys.length < sizeLine ∧ ((i = n' ∧ (Itr lo n).stop i H2 ∧ QH H2) ∨ (i < n' ∧ (Itr lo n).go i H2 ∧ ∀ x H3, (Itr lo n).yld i H2 x H3 → ∀ τ : St, τ.length = k → (gName 0) x (τ ++ σ) H3 fun τ2 H4 =>
    (∃ τ' : St, τ'.length = k ∧ τ2 = τ' ++ σ) ∧ tc τ2 H4 fun b H5 => if b = true then te τ2 H5 fun v H6 => H6 acc = some (.lst ys) ∧ W (i + 1) (ys ++ [v]) (upd H6 acc (.lst (ys ++ [v]))) else W (i + 1) ys H5)) := by
  subst hk
  refine ⟨fun i ys H2 => i ≤ n ∧ ys = ((List.range i).filter p).map f ∧ H2 = upd H1 acc (.lst ys), n, ⟨Nat.zero_le _, rfl, rfl⟩, ?_⟩
  rintro i ys H2 ⟨hi, hys, rfl⟩
  have hl : ys.length < sizeLine := by
    rw [hys, List.length_map]
    have := List.length_filter_le p (List.range i)
    rw [List.length_range] at this
    omega
  refine ⟨upd_same, hl, ?_⟩
  by_cases hlt : i < n
  · refine .inr ⟨hlt, hlt, ?_⟩
    rintro x H3 ⟨rfl, rfl⟩ τ hτ
    obtain ⟨t, rfl⟩ : ∃ t, τ = [t] := by
      match τ, hτ with
      | [t], _ => exact ⟨t, rfl⟩
    refine ⟨⟨[some (.int (lo + i))], rfl, rfl⟩, ?_⟩
    show tc (some (.int (lo + i)) :: σ) _ _
    refine hc i ys hlt _ ?_
    have rs : List.range (i + 1) = List.range i ++ [i] := List.range_succ
    cases hp : p i with
    | true =>
      refine iteT (he i ys hlt hp _ ⟨upd_same, hlt, ?_, upd_upd⟩)
      rw [rs, List.filter_append, List.map_append, hys]
      simp [List.filter, hp]
    | false =>
      refine iteF ⟨hlt, ?_, rfl⟩
      rw [rs, List.filter_append, List.map_append, hys]
      simp [List.filter, hp]
  · have e : i = n := by omega
    subst e
    refine .inl ⟨rfl, Nat.le_refl _, ?_⟩
    have := q
    rw [← hys] at this
    exact this
end
section
variable {X : Cx} {pins : List (Addr × Obj)} {σ : St} {H : Hp} {s : Shared}
end
end L2

set_option maxHeartbeats 4000000
namespace L2
open PySem PySem.Spec PyProof.Rows PyProof.V PySem.SeqAt
mutual
theorem noMix_self : ∀ d : PyData, d.canLay0 = true → noMix d d = true
  | .none, _ => by simp [noMix]
  | .bool _, _ => by simp [noMix]
  | .int _, _ => by simp [noMix]
  | .str _, _ => by simp [noMix]
  | .list xs, h => by
    rw [noMix]
    exact noMixAll_self xs (by simpa [PyData.canLay0] using h)
  | .tuple xs, h => by
    rw [noMix]
    exact noMixAll_self xs (by simpa [PyData.canLay0] using h)
  | .dict _, h => by simp [PyData.canLay0] at h
theorem noMixAll_self : ∀ ds : List PyData, PyData.canLayAll0 ds = true → noMixAll ds ds = true
  | [], _ => by simp [noMixAll]
  | d :: ds, h => by
    simp only [PyData.canLayAll0, Bool.and_eq_true] at h
    rw [noMixAll, noMix_self d h.1, noMixAll_self ds h.2]
    rfl
end
def Tid (n : Nat) (d : PyData) : Prop := d.canLay0 = true ∧ d.depth ≤ n
theorem Tid.mono {n m : Nat} {d : PyData} (h : Tid n d) (hm : n ≤ m) : Tid m d := ⟨h.1, Nat.le_trans h.2 hm⟩
theorem Tid.shaped {n : Nat} {d : PyData} (h : Tid n d) (hn : n ≤ 64) : shaped d = true := by
  show (d.canLay0 && decide (d.depth ≤ 64)) = true
  rw [h.1, decide_eq_true (Nat.le_trans h.2 hn)]
  rfl
theorem Tid.int (i : Int) : Tid 1 (.int i) := ⟨by simp [PyData.canLay0], by simp [PyData.depth]⟩
theorem Tid.bool (b : Bool) : Tid 1 (.bool b) := ⟨by simp [PyData.canLay0], by simp [PyData.depth]⟩
theorem Tid.str {x : Str} (h : PyData.canLay0 (.str x) = true) : Tid 1 (.str x) := ⟨h, by simp [PyData.depth]⟩
theorem Tid.all {n : Nat} : ∀ {ds : List PyData}, (∀ d ∈ ds, Tid n d) → PyData.canLayAll0 ds = true ∧ PyData.depthAll ds ≤ n
  | [], _ => ⟨by simp [PyData.canLayAll0], by simp [PyData.depthAll]⟩
  | d :: ds, h => by
    have h1 := h d List.mem_cons_self
    have h2 := Tid.all (ds := ds) fun x hx => h x (List.mem_cons_of_mem _ hx)
    refine ⟨by simp [PyData.canLayAll0, h1.1, h2.1], ?_⟩
    have := h1.2
    have := h2.2
    simp only [PyData.depthAll]
    omega
theorem Tid.list {n : Nat} {ds : List PyData} (h : ∀ d ∈ ds, Tid n d) : Tid (n + 1) (.list ds) := by
  have q := Tid.all h
  refine ⟨by simpa [PyData.canLay0] using q.1, ?_⟩
  have := q.2
  simp only [PyData.depth]
  omega
theorem Tid.ints (ns : List Int) : Tid 2 (.list (ns.map PyData.int)) := Tid.list fun d hd => by
  rw [List.mem_map] at hd
  obtain ⟨i, _, rfl⟩ := hd
  exact Tid.int i
section
variable {K : PySem.W.Frag} {H : Hp} {x y : V} {d : PyData} {Q : VK} {n : Nat}
theorem rEqD_self (h1 : DatV K H x d) (h2 : DatV K H y d) (t : Tid n d) (q : Q (.bl true) H) (hn : n ≤ 64 := by decide) : rEqD K x y H Q :=
  ⟨d, d, h1, h2, t.shaped hn, t.shaped hn, noMix_self d t.1, by rw [PySem.Spec.same_self]; exact q⟩
theorem rNeD_self (h1 : DatV K H x d) (h2 : DatV K H y d) (t : Tid n d) (q : Q (.bl false) H) (hn : n ≤ 64 := by decide) : rNeD K x y H Q :=
  ⟨d, d, h1, h2, t.shaped hn, t.shaped hn, noMix_self d t.1, by rw [PySem.Spec.same_self]; exact q⟩
end
end L2

namespace L2
open PySem PySem.Spec PyProof.Rows
section
variable {X : Cx}
end
def notStar : Expr → Bool
  | .Starred _ _ => false
  | _ => true
theorem star_cons {e : Expr} {es : List Expr} {env : Env} (h : notStar e = true) : starEach (e :: es) env = (false, eval e env) :: starEach es env := by
  cases e <;> first | rfl | cases h
theorem pa_cn {X : Cx} {e : Expr} {es : List Expr} {te : TE} {t : TA} (ha : PE X e te) (hr : PA X es t) (h : notStar e = true) : PA X (e :: es) (tCons te t) := pa_cons ha hr (star_cons h)
theorem exW {p : (Nat → Nat → St → Hp → Prop) → Prop} (w : Nat → Nat → St → Hp → Prop) (h : p w) : ∃ w, p w := ⟨w, h⟩
theorem exN {p : (St → Hp → Prop) → Prop} (w : St → Hp → Prop) (h : p w) : ∃ w, p w := ⟨w, h⟩
theorem exD {p : PyData → Prop} (w : PyData) (h : p w) : ∃ w, p w := ⟨w, h⟩
theorem exW2 {p : (Nat → St → Hp → Prop) → Prop} (w : Nat → St → Hp → Prop) (h : p w) : ∃ w, p w := ⟨w, h⟩
theorem up_old {H : Hp} {q b : Addr} {u o : HO} (h : H q = none) (e : H b = some o) : upd H q u b = some o := same_upd h b o e
theorem up_ne {H : Hp} {q b : Addr} {u o : HO} (h : b ≠ q) (e : H b = some o) : upd H q u b = some o := by rw [upd_ne h]; exact e
theorem lk_next {f g : Str} {v : V} {r : List (Str × V)} {o : Option V} (h : ¬ g = f) (e : r.lookup g = o) : ((f, v) :: r).lookup g = o := by
  have hb : (g == f) = false := beq_eq_false_iff_ne.mpr h
  simp only [List.lookup, hb]
  exact e
theorem sm_upd {H H' : Hp} {q : Addr} {u : HO} (h : H' q = none) (e : Same H H') : Same H (upd H' q u) := e.trans (same_upd h)
theorem lk_eq {f : Str} {v : V} {r : List (Str × V)} : ((f, v) :: r).lookup f = some v := by
  have hb : (f == f) = true := beq_iff_eq.mpr rfl
  simp only [List.lookup, hb]
theorem pf_eq {f : Str} {v x : V} {r : List (Str × V)} : putF f v ((f, x) :: r) = (f, v) :: r := if_pos rfl
theorem pf_ne {f g : Str} {v x : V} {r : List (Str × V)} (h : ¬ g = f) : putF f v ((g, x) :: r) = (g, x) :: putF f v r := if_neg h
theorem pf_nil {f : Str} {v : V} : putF f v [] = [(f, v)] := rfl
theorem Room.u1 {k : Nat} {A : Around} (r : Room k A) : A.units + 1 < cLine := by have := r.un; omega
section
variable {X : Cx}
end
def Fr (fp fp' : List Addr) (H H' : Hp) : Prop := (∀ b u, H b = some u → b ∉ fp → H' b = some u) ∧ ∀ b, b ∈ fp' → b ∈ fp ∨ H b = none
theorem Fr.refl (fp : List Addr) (H : Hp) : Fr fp fp H H := ⟨fun _ _ h _ => h, fun _ h => .inl h⟩
theorem Fr.same {fp : List Addr} {H H' : Hp} (h : Same H H') : Fr fp fp H H' := ⟨fun b u z _ => h b u z, fun _ h => .inl h⟩
theorem Fr.out {fp fp' : List Addr} {H H' : Hp} (h : Fr fp fp' H H') {b : Addr} {u : HO} (e : H b = some u) (n : b ∉ fp) : H' b = some u ∧ b ∉ fp' :=
  ⟨h.1 b u e n, fun z => (h.2 b z).elim (fun q => n q) fun q => by rw [e] at q; cases q⟩
theorem Fr.trans {fp fp' fp'' : List Addr} {H H' H'' : Hp} (h : Fr fp fp' H H') (k : Fr fp' fp'' H' H'') : Fr fp fp'' H H'' := by
  refine ⟨fun b u e n => ?_, fun b hb => ?_⟩
  · obtain ⟨e1, n1⟩ := h.out e n
    exact k.1 b u e1 n1
  · rcases k.2 b hb with q | q
    · exact h.2 b q
    · by_cases n : b ∈ fp
      · exact .inl n
      · refine .inr ?_
        cases e : H b with
        | none => rfl
        | some u => rw [h.1 b u e n] at q; cases q
theorem Fr.put {fp : List Addr} {H : Hp} {b : Addr} {o : HO} (h : b ∈ fp) : Fr fp fp H (upd H b o) :=
  ⟨fun c u e n => by rw [upd_ne fun z => n (by rw [z]; exact h)]; exact e, fun _ z => .inl z⟩
theorem Fr.new {fp : List Addr} {H : Hp} {b : Addr} {o : HO} (h : H b = none) : Fr fp (b :: fp) H (upd H b o) :=
  ⟨fun c u e n => by rw [upd_ne (ne_of_none e h)]; exact e, fun c z => (List.mem_cons.mp z).elim (fun z => .inr (by rw [z]; exact h)) fun z => .inl z⟩
theorem Fr.sub {fp fp' fq : List Addr} {H H' : Hp} (h : Fr fp fp' H H') (s : ∀ b, b ∈ fq → b ∈ fp') : Fr fp fq H H' := ⟨h.1, fun b z => h.2 b (s b z)⟩
section
variable {X : Cx}
end
section
variable {X : Cx}
end
end L2

set_option maxHeartbeats 4000000
namespace L2
open PySem PySem.Spec PyProof.Rows
end L2

set_option maxHeartbeats 4000000
namespace L2
open PySem PySem.Spec PyProof.Rows
structure CMeth (K : PySem.W.Frag) (C : Addr) (m : Str) (f : Addr) : Prop where
  sp : PySem.W.specialIn K (.ref C) "__getattribute__" = some (some (.builtin "type.__getattribute__"))
  fi : ∃ mc, PySem.W.readsIn K C mc = true ∧ PySem.W.findCls K (.ref C) mc m = some (.val (.ref f))
  kp : PySem.W.keepIn K (.ref f) = true
def HasCm (P : Program) (w : World) (K : PySem.W.Frag) (mg : Str → Option Value) (base : Heap) (C : Addr) (k : Nat) (m : Str) (ps : List Str) (sp : Sp) (dvs : List V) : Prop :=
  ∃ f fd ds, FnOk P w K mg base (CXE P w) k f fd ps sp ∧ CMeth K C m f ∧ Binds K fd ps ds ∧ Vals dvs ds
section
variable {P : Program} {w : World} {K : PySem.W.Frag} {mg : Str → Option Value} {base : Heap} {C : Addr} {x m qual : Str} {st : Stmt} {N ps : List Str} {dvs : List V} {k : Nat} {sp : Sp}
end
section
variable {X : Cx} {C : Addr} {k : Nat} {ps : List Str} {sp : Sp} {dvs : List V} {E : St → XK} {x m : Str} {p pos apos : Pos} {e o : Expr} {es : List Expr} {ta : TE} {t : TA}
theorem pe_cm {pl : Sem Bool} (hg : Gl X x) (hm : X.mg x = some (.ref C)) (h : HasCm X.prog X.w X.K X.mg X.base C k m ps sp dvs) (hr : Room k X.A) (hx : PassesX (CXE X.prog X.w) X E) (ha : PA X (e :: es) t)
    (hdb : (x == ("__debug__" : Str)) = false := by decide)
    (hst : starEach (e :: es) X.env = (false, eval e X.env) :: starEach es X.env := by rfl) (hpl : (backTo pos (starEach es X.env)).any (·.1) = false := by rfl)
    (ht : eval (.Call (.Attribute (.Name x p) m apos) (e :: es) [] pos) X.env = (do
      let ov ← eval (.Name x p) X.env
      standAt apos.atName
      let (f, first) ← holding [ov] (getMethod ov m pl)
      callWith pos f first (backTo pos (starEach (e :: es) X.env)) (backToKw pos (keywordEach [] X.env))) := by rfl) :
    PE X (.Call (.Attribute (.Name x p) m apos) (e :: es) [] pos) (tCallX sp dvs E t) := by
  obtain ⟨f, fd, ds, F, hc, hb, hd⟩ := h
  obtain ⟨mc, h1, h2⟩ := hc.fi
  intro pins s σ H Q I h
  refine PySem.W.methodCall_KW (pl := pl) (ld_glob I hg hm ?_ hdb) ht
  refine PySem.W.method_cls I.kIn hc.sp (PySem.W.cls_value I.kIn h1 h2 rfl ?_)
  have I' : Inv X pins σ H { s with toks := s.toks + 1 } := I.tok _
  refine PySem.W.callWith_K (first := []) (h₀ := X.base) I.ok.mod.kin hc.kp (thn (ha pos pins _ σ H _ I' h) fun us s1 ⟨vs, H1, I1, r, q⟩ => ⟨I1.kIn, ?_⟩) hst hpl
  exact run_fnX F hr hb hd hx I1 r q
end
section
variable {X : Cx} {P : Program} {w : World} {K : PySem.W.Frag} {mg : Str → Option Value} {base : Heap} {m : Str} {dvs : List V} {k : Nat} {E : St → XK} {ta : TE} {t : TA} {o e : Expr} {es : List Expr} {pos apos : Pos}
end
section
variable {X : Cx} {a : Addr} {x : Str} {i : Expr} {ty : TE} {p pos : Pos}
end
section
variable {P : Program} {w : World} {K : PySem.W.Frag} {mg : Str → Option Value} {base : Heap} {C f : Addr} {m : Str} {ps : List Str} {dvs : List V} {ds : List Value} {k : Nat} {sp : Sp} {fd : FuncData}
theorem hasMk (F : FnOk P w K mg base (CXE P w) k f fd ps sp) (h : Mk K C f) (hb : Binds K fd ps ds) (hd : Vals dvs ds) : HasMk P w K mg base C k ps sp dvs := ⟨f, fd, ds, F, h, hb, hd⟩
theorem hasCm (F : FnOk P w K mg base (CXE P w) k f fd ps sp) (h : CMeth K C m f) (hb : Binds K fd ps ds) (hd : Vals dvs ds) : HasCm P w K mg base C k m ps sp dvs := ⟨f, fd, ds, F, h, hb, hd⟩
end
section
variable {X : Cx} {x : Str} {pos : Pos}
end
end L2

set_option maxHeartbeats 4000000
namespace L2
open PySem PySem.Spec PyProof.Rows
section
variable {X : Cx} {pins : List (Addr × Obj)} {σ : St} {H : Hp} {s : Shared}
end
end L2

set_option maxHeartbeats 4000000
namespace L2
open PySem PySem.Spec PyProof.Rows
section
variable {X : Cx}
variable {pins : List (Addr × Obj)} {σ : St} {H : Hp} {s : Shared} {a : Addr} {kvs : List (Key × V)} {k : Key} {A : Around} {E : Value → Shared → Prop} {u : Value}
variable {o e' f : Expr} {apos cpos : Pos} {td ty tx : TE}
end
end L2

set_option maxHeartbeats 4000000
namespace L2
open PySem PyProof.Rows
section
variable {x y : Int} {k : Nat}
end
end L2

set_option maxHeartbeats 4000000
namespace L2
open PySem PyProof.Rows
end L2

set_option maxHeartbeats 4000000
namespace L2
open PySem PySem.Spec PyProof.Rows
section
variable {X : Cx} {pins : List (Addr × Obj)} {σ : St} {H : Hp} {s : Shared}
end
end L2

set_option maxHeartbeats 4000000
namespace L2
end L2

set_option maxHeartbeats 4000000
namespace PySem
open Sem (wp)
open AutoSeq1 (wpAny_loadPart')
section
variable {prog : Program} {w : World} {A : Around} {E : Value → Shared → Prop} {s : Shared}
end
end PySem

set_option maxHeartbeats 4000000
namespace L2
open PySem PySem.Spec PyProof.Rows
section
variable {X : Cx} {pins : List (Addr × Obj)} {σ : St} {H : Hp} {s : Shared}
end
end L2

set_option maxHeartbeats 4000000
namespace PySem
namespace F
end F
section
variable {prog : Program} {w : World} {A : Around} {E : Value → Shared → Prop} {s : Shared}
open PyProof.Rows
end
namespace F
end F
section
open Sem (wp)
variable {prog : Program} {w : World} {A : Around} {s : Shared} {R : Result → Shared → Prop}
variable {I : Addr} {fp wr : List Addr} {G : Array GenState → Array GenState → Prop} {n : Nat} {P : Nat → Value → Prop} {St : Nat → Shared → Prop}
end
section
variable {prog : Program} {w : World} {A : Around} {E : Value → Shared → Prop} {s : Shared}
variable {I : Addr} {fp wr : List Addr} {G : Array GenState → Array GenState → Prop} {n : Nat} {P : Nat → Value → Prop} {St : Nat → Shared → Prop}
end
end PySem

set_option maxHeartbeats 4000000
namespace L2
open PySem PySem.Spec PyProof.Rows
section
variable {X : Cx} {tg l : Expr} {tl : TE} {p pos : Pos}
end
end L2

set_option maxHeartbeats 4000000
namespace L2
open PySem PySem.Spec PyProof.Rows
end L2

set_option maxHeartbeats 4000000
namespace L2
open PySem PySem.Spec PyProof.Rows
section
variable {X : Cx} {tg : Expr}
end
end L2

set_option maxHeartbeats 4000000
namespace L2
open PySem PySem.Spec PyProof.Rows
section
variable {X : Cx} {pins : List (Addr × Obj)} {σ : St} {H : Hp} {s : Shared} {a : Addr}
end
end L2

set_option maxHeartbeats 4000000
namespace L2
open PySem PySem.Spec PyProof.Rows
section
variable {X : Cx}
end
end L2

set_option maxHeartbeats 4000000
namespace L2
open PySem PySem.Spec PyProof.Rows
section
variable {X : Cx} {tg : Expr}
end
end L2


set_option maxHeartbeats 4000000
namespace PySem
section
variable {prog : Program} {w : World} {A : Around} {E : Value → Shared → Prop} {s : Shared}
theorem nextOf_tup_item {it t : Addr} {i : Nat} {items} {x : Value} {Q : Value → Shared → Prop} (hit : s.heap.IsTupleIter it t i) (ht : s.heap.IsTuple t items) (hx : items[i]? = some x)
    (hQ : ∀ h', h'.IsTupleIter it t (i + 1) → Heap.SameBut it s.heap h' → Q x { s with heap := h' }) : wpAny (model prog w) A (Builtin.SmallTypes.nextOf (.ref it)) Q E s := by
  obtain ⟨o, ho, hc, hd⟩ := id hit
  obtain ⟨ol, hol, _, nl, hdl⟩ := ht
  unfold Builtin.SmallTypes.nextOf
  refine wpAny_bind (wpAny_callSpecial?_slot (name := Str.ofString "__next__") hit.typeIs F.slot_tuple_iterator_next
    (wpAny_call_entry F.slot_tuple_iterator_next hit.typeIs F.entry_tuple_iterator_next ?_ (F.args_tuple_iterator_next_1 _)))
  show wpAny _ _ (field (.ref it) 0 >>= _) _ _ s
  refine wpAny_bind (wpAny_field ho hd (x := .ref t) rfl ?_)
  show wpAny _ _ (if (Value.ref t == Value.none) = true then _ else _) _ _ s
  rw [if_neg (show ¬ ((Value.ref t == Value.none) = true) from Bool.false_ne_true)]
  show wpAny _ _ (field (.ref it) 1 >>= _) _ _ s
  refine wpAny_bind (wpAny_field ho hd (x := .int i 0) rfl ?_)
  show wpAny _ _ (seqItems? (.ref t) >>= _) _ _ s
  refine wpAny_bind (wpAny_seqItems hol hdl ?_)
  simp only [Int.toNat_natCast, hx]
  refine wpAny_bind (wpAny_setField ho hd (by simp) (wpAny_pure ⟨x, rfl, wpAny_pure (hQ _ ?_ (Heap.SameBut.update ..))⟩))
  exact ⟨_, Heap.get?_update_self _ ho (Obj.isFreed_of_fields (Obj.data_mapFields hd _)), (Obj.cls_mapFields ..).trans hc, by
    rw [Obj.data_mapFields hd]; simp [rawInt]⟩
theorem nextOf_tup_end {it t : Addr} {i : Nat} {items} {Q : Value → Shared → Prop} (hh : A.handled = none) (hit : s.heap.IsTupleIter it t i) (ht : s.heap.IsTuple t items) (hx : items[i]? = none)
    (hE : ∀ h' e, Heap.ExtBut it s.heap h' → (∃ o, h'.get? e = some o ∧ o.cls = .type "StopIteration") → E (.ref e) { s with heap := h' }) : wpAny (model prog w) A (Builtin.SmallTypes.nextOf (.ref it)) Q E s := by
  obtain ⟨o, ho, hc, hd⟩ := id hit
  obtain ⟨ol, hol, _, nl, hdl⟩ := ht
  unfold Builtin.SmallTypes.nextOf
  refine wpAny_bind (wpAny_callSpecial?_slot (name := Str.ofString "__next__") hit.typeIs F.slot_tuple_iterator_next
    (wpAny_call_entry F.slot_tuple_iterator_next hit.typeIs F.entry_tuple_iterator_next ?_ (F.args_tuple_iterator_next_1 _)))
  show wpAny _ _ (field (.ref it) 0 >>= _) _ _ s
  refine wpAny_bind (wpAny_field ho hd (x := .ref t) rfl ?_)
  show wpAny _ _ (if (Value.ref t == Value.none) = true then _ else _) _ _ s
  rw [if_neg (show ¬ ((Value.ref t == Value.none) = true) from Bool.false_ne_true)]
  show wpAny _ _ (field (.ref it) 1 >>= _) _ _ s
  refine wpAny_bind (wpAny_field ho hd (x := .int i 0) rfl ?_)
  show wpAny _ _ (seqItems? (.ref t) >>= _) _ _ s
  refine wpAny_bind (wpAny_seqItems hol hdl ?_)
  simp only [Int.toNat_natCast, hx]
  refine wpAny_bind (wpAny_rule (wpAny_bind (wpAny_setField ho hd (by simp) ?_)))
  show wpAny _ _ (newExc (.type "StopIteration") [] >>= _) _ _ _
  refine wpAny_bind ?_
  simp only [newExc, newTuple]
  refine wpAny_bind (wpAny_newObj_type ?_ (by size_fits))
  refine wpAny_bind (m := firstArgMember _ _) (wpAny_of_eq (a := Value.none) (by first | rfl | (simp only [firstArgMember]; rfl)) ?_)
  refine wpAny_newObj_type ?_ (by size_fits)
  simp only [raiseNew]
  refine wpAny_bind (wpAny_handled ?_)
  first | rw [show A.in1.handled = none from hh] | rw [hh]
  refine wpAny_bind (wpAny_pure (wpAny_throw ?_))
  exact hE _ _ (((Heap.SameBut.update ..).extBut.push _).push _) ⟨_, Heap.get?_push_size _ rfl, rfl⟩
end
structure ZSrc (prog : Program) (w : World) (i l : Addr) (xs : Array Value) (P : Nat → Heap → Prop) : Prop where
  item : ∀ (A : Around) (E : Value → Shared → Prop) (s : Shared) (k : Nat) (x : Value) (Q : Value → Shared → Prop), P k s.heap → xs[k]? = some x → (∀ h', P (k + 1) h' → Heap.SameBut i s.heap h' → Q x { s with heap := h' }) → wpAny (model prog w) A (Builtin.SmallTypes.nextOf (.ref i)) Q E s
  stop : ∀ (A : Around) (E : Value → Shared → Prop) (s : Shared) (k : Nat) (Q : Value → Shared → Prop), A.handled = none → P k s.heap → xs[k]? = none →
    (∀ h' e, Heap.ExtBut i s.heap h' → (∃ o, h'.get? e = some o ∧ o.cls = .type "StopIteration") → E (.ref e) { s with heap := h' }) → wpAny (model prog w) A (Builtin.SmallTypes.nextOf (.ref i)) Q E s
  keep : ∀ k h h', P k h → (∀ b, b = i ∨ b = l → ∀ o, h.get? b = some o → h'.get? b = some o) → P k h'
  at_ : ∀ k h, P k h → ∃ o, h.get? i = some o
theorem ZSrc.list {prog : Program} {w : World} {i l : Addr} (ne : l ≠ i) (xs : Array Value) : ZSrc prog w i l xs fun k h => h.IsListIter i l k ∧ h.IsList l xs where
  item := fun A E s k x Q p hx q => wpAny_nextOf_list_item p.1 p.2 hx fun h' hit sb => q h' ⟨hit, p.2.extBut sb.extBut ne⟩ sb
  stop := fun A E s k Q hh p hx q => wpAny_nextOf_list_end hh p.1 p.2 hx q
  keep := fun k h h' p q => ⟨p.1.at fun o e => q i (.inl rfl) o e, p.2.at fun o e => q l (.inr rfl) o e⟩
  at_ := fun k h p => by obtain ⟨o, e, _⟩ := p.1; exact ⟨o, e⟩
theorem ZSrc.tup {prog : Program} {w : World} {i l : Addr} (ne : l ≠ i) (xs : Array Value) : ZSrc prog w i l xs fun k h => h.IsTupleIter i l k ∧ h.IsTuple l xs where
  item := fun A E s k x Q p hx q => nextOf_tup_item p.1 p.2 hx fun h' hit sb => q h' ⟨hit, p.2.extBut sb.extBut ne⟩ sb
  stop := fun A E s k Q hh p hx q => nextOf_tup_end hh p.1 p.2 hx q
  keep := fun k h h' p q => ⟨p.1.at fun o e => q i (.inl rfl) o e, p.2.at fun o e => q l (.inr rfl) o e⟩
  at_ := fun k h p => by obtain ⟨o, e, _⟩ := p.1; exact ⟨o, e⟩
section
variable {prog : Program} {w : World} {A : Around} {E : Value → Shared → Prop} {s : Shared} {z TI TO i1 i2 l1 l2 : Addr} {xs ys : Array Value} {P1 P2 : Nat → Heap → Prop}
theorem zipG_item {k : Nat} {x y a b : Value} {Q : Value → Shared → Prop} (D : ZipApart z TI TO i1 i2 l1 l2) (S1 : ZSrc prog w i1 l1 xs P1) (S2 : ZSrc prog w i2 l2 ys P2)
    (hz : IsZip s.heap z TI TO .none) (hTI : IsPair s.heap TI (.ref i1) (.ref i2)) (hTO : IsPair s.heap TO a b) (h1 : P1 k s.heap) (h2 : P2 k s.heap) (hx : xs[k]? = some x) (hy : ys[k]? = some y)
    (hQ : ∀ h', IsZip h' z TI TO (rawInt s.heap.objs.size) → IsPair h' TO x y → P1 (k + 1) h' → P2 (k + 1) h' → IsPair h' s.heap.objs.size x y → h'.objs.size = s.heap.objs.size + 1 →
      (∀ c o, c ≠ z → c ≠ TO → c ≠ i1 → c ≠ i2 → s.heap.get? c = some o → h'.get? c = some o) → Q (.ref s.heap.objs.size) { s with heap := h' }) :
    wpAny (model prog w) A (Builtin.«zip.__next__» ⟨[.ref z], []⟩) (fun fin s' => ∃ v, fin = .done (.ret v) ∧ Q v s') E s := by
  have kp1 : ∀ {k h h' c}, c ≠ i1 → c ≠ l1 → Heap.ExtBut c h h' → P1 k h → P1 k h' := fun n1 n2 hs p => S1.keep _ _ _ p fun b hb o e => hs b o (by rcases hb with rfl | rfl; exact n1.symm; exact n2.symm) e
  have kp2 : ∀ {k h h' c}, c ≠ i2 → c ≠ l2 → Heap.ExtBut c h h' → P2 k h → P2 k h' := fun n1 n2 hs p => S2.keep _ _ _ p fun b hb o e => hs b o (by rcases hb with rfl | rfl; exact n1.symm; exact n2.symm) e
  show wpAny _ _ (field (.ref z) 2 >>= _) _ _ _
  refine wpAny_bind (wpAny_field hz rfl (x := .bool false) rfl ?_)
  show wpAny _ _ (field (.ref z) 3 >>= _) _ _ _
  refine wpAny_bind (wpAny_field hz rfl (x := .ref TI) rfl ?_)
  refine wpAny_bind (wpAny_seqItems hTI rfl ?_)
  show wpAny _ _ (Builtin.SmallTypes.ownedTupleIsFree (.ref z) >>= _) _ _ _
  refine wpAny_bind ?_
  unfold Builtin.SmallTypes.ownedTupleIsFree
  refine wpAny_bind (wpAny_field hz rfl (x := .none) rfl (wpAny_pure ?_))
  simp only [if_true]
  refine wpAny_bind (wpAny_rule ?_)
  refine wpAny_bind (wpAny_field hz rfl (x := .ref TO) rfl ?_)
  refine wpAny_bind (wpAny_setField_rec hz (by simp) fun h₁ hz₁ hs₁ => ?_)
  replace hz₁ : IsZip h₁ z TI TO .ellipsis := hz₁
  refine wpAny_bind ?_
  simp only [List.zipIdx_cons, List.zipIdx_nil, List.forIn_cons, List.forIn_nil]
  refine wpAny_bind (wpAny_bind (wpAny_onRaise ?_))
  show wpAny _ _ (Builtin.SmallTypes.nextOf (.ref i1) >>= _) _ _ _
  refine wpAny_bind (S1.item _ _ _ k x _ (kp1 D.i1z.symm D.l1z.symm hs₁.extBut h1) hx fun h₂ h1₂ hs₂ => wpAny_pure ?_)
  have hTO₂ : IsPair h₂ TO a b := hs₂.extBut _ _ D.TOi1 (hs₁.extBut _ _ D.TOz hTO)
  refine wpAny_bind (wpAny_seqItems hTO₂ rfl ?_)
  refine wpAny_bind (wpAny_updateSeq_pair hTO₂ fun h₃ hTO₃ hs₃ => ?_)
  replace hTO₃ : IsPair h₃ TO x b := hTO₃
  refine wpAny_bind (wpAny_letGo (wpAny_pure ?_))
  refine wpAny_bind (wpAny_bind (wpAny_onRaise ?_))
  show wpAny _ _ (Builtin.SmallTypes.nextOf (.ref i2) >>= _) _ _ _
  refine wpAny_bind (S2.item _ _ _ k y _ (kp2 D.TOi2 D.l2TO.symm hs₃.extBut (kp2 D.i12 D.l2i1.symm hs₂.extBut (kp2 D.i2z.symm D.l2z.symm hs₁.extBut h2))) hy fun h₄ h2₄ hs₄ => wpAny_pure ?_)
  have hTO₄ : IsPair h₄ TO x b := hs₄.extBut _ _ D.TOi2 hTO₃
  refine wpAny_bind (wpAny_seqItems hTO₄ rfl ?_)
  refine wpAny_bind (wpAny_updateSeq_pair hTO₄ fun h₅ hTO₅ hs₅ => ?_)
  replace hTO₅ : IsPair h₅ TO x y := hTO₅
  refine wpAny_bind (wpAny_letGo (wpAny_pure (wpAny_pure ?_)))
  refine wpAny_bind (wpAny_seqItems hTO₅ rfl ?_)
  refine wpAny_bind (wpAny_newTuple ?_)
  have hsz : h₅.objs.size = s.heap.objs.size := by rw [hs₅.1, hs₄.1, hs₃.1, hs₂.1, hs₁.1]
  have hz₅ : IsZip h₅ z TI TO .ellipsis := hs₅.extBut _ _ D.TOz.symm (hs₄.extBut _ _ D.i2z.symm (hs₃.extBut _ _ D.TOz.symm (hs₂.extBut _ _ D.i1z.symm hz₁)))
  have hk₅ : ∀ c o, c ≠ z → c ≠ TO → c ≠ i1 → c ≠ i2 → s.heap.get? c = some o → h₅.get? c = some o := fun c o c1 c2 c3 c4 e =>
    hs₅.extBut _ _ c2 (hs₄.extBut _ _ c4 (hs₃.extBut _ _ c2 (hs₂.extBut _ _ c3 (hs₁.extBut _ _ c1 e))))
  have h1₅ : P1 (k + 1) h₅ := kp1 D.TOi1 D.l1TO.symm hs₅.extBut (kp1 D.i12.symm D.l1i2.symm hs₄.extBut (kp1 D.TOi1 D.l1TO.symm hs₃.extBut h1₂))
  have h2₅ : P2 (k + 1) h₅ := kp2 D.TOi2 D.l2TO.symm hs₅.extBut h2₄
  have hzlt : z < h₅.objs.size := Heap.lt_size hz₅
  show wpAny _ _ (Builtin.SmallTypes.ownedTupleHandOut (.ref z) (.ref h₅.objs.size) >>= _) _ _ _
  refine wpAny_bind ?_
  unfold Builtin.SmallTypes.ownedTupleHandOut
  have hz₆ : IsZip (h₅.push { cls := .type "tuple", data := .seq #[x, y] }) z TI TO .ellipsis := Heap.get?_push_of_some _ hz₅
  refine wpAny_bind (wpAny_setField_rec hz₆ (by simp) fun h₇ hz₇ hs₇ => ?_)
  replace hz₇ : IsZip h₇ z TI TO (rawInt h₅.objs.size) := hz₇
  refine wpAny_setField_rec hz₇ (by simp) fun h₈ hz₈ hs₈ => ?_
  replace hz₈ : IsZip h₈ z TI TO (rawInt h₅.objs.size) := hz₈
  have up : ∀ c o, c ≠ z → h₅.get? c = some o → h₈.get? c = some o := fun c o c1 e => hs₈.extBut _ _ c1 (hs₇.extBut _ _ c1 (Heap.get?_push_of_some _ e))
  have hT₈ : IsPair h₈ h₅.objs.size x y := hs₈.extBut _ _ (Nat.ne_of_gt hzlt) (hs₇.extBut _ _ (Nat.ne_of_gt hzlt) (Heap.get?_push_size _ rfl))
  have hz8 : h₈.objs.size = h₅.objs.size + 1 := by rw [hs₈.1, hs₇.1, Heap.size_push]
  rw [hsz] at hz₈ hT₈ hz8
  refine wpAny_pure ⟨_, rfl, ?_⟩
  show Q (.ref h₅.objs.size) _
  rw [hsz]
  exact hQ h₈ hz₈ (up _ _ D.TOz hTO₅) (S1.keep _ _ _ h1₅ fun b hb o e => up b o (by rcases hb with rfl | rfl; exact D.i1z; exact D.l1z) e) (S2.keep _ _ _ h2₅ fun b hb o e => up b o (by rcases hb with rfl | rfl; exact D.i2z; exact D.l2z) e) hT₈ hz8 fun c o c1 c2 c3 c4 e => up c o c1 (hk₅ c o c1 c2 c3 c4 e)
theorem zipG_end {k : Nat} {a b : Value} {Q : Fin → Shared → Prop} (hh : A.handled = none) (D : ZipApart z TI TO i1 i2 l1 l2) (S1 : ZSrc prog w i1 l1 xs P1) (S2 : ZSrc prog w i2 l2 ys P2)
    (hz : IsZip s.heap z TI TO .none) (hTI : IsPair s.heap TI (.ref i1) (.ref i2)) (hTO : IsPair s.heap TO a b) (h1 : P1 k s.heap) (h2 : P2 k s.heap) (hend : xs[k]? = none ∨ ys[k]? = none)
    (hE : ∀ h' e, (∀ c o, c ≠ z → c ≠ TO → c ≠ i1 → c ≠ i2 → s.heap.get? c = some o → h'.get? c = some o) → (∃ o, h'.get? e = some o ∧ o.cls = .type "StopIteration") → E (.ref e) { s with heap := h' }) :
    wpAny (model prog w) A (Builtin.«zip.__next__» ⟨[.ref z], []⟩) Q E s := by
  have kp1 : ∀ {k h h' c}, c ≠ i1 → c ≠ l1 → Heap.ExtBut c h h' → P1 k h → P1 k h' := fun n1 n2 hs p => S1.keep _ _ _ p fun b hb o e => hs b o (by rcases hb with rfl | rfl; exact n1.symm; exact n2.symm) e
  have kp2 : ∀ {k h h' c}, c ≠ i2 → c ≠ l2 → Heap.ExtBut c h h' → P2 k h → P2 k h' := fun n1 n2 hs p => S2.keep _ _ _ p fun b hb o e => hs b o (by rcases hb with rfl | rfl; exact n1.symm; exact n2.symm) e
  show wpAny _ _ (field (.ref z) 2 >>= _) _ _ _
  refine wpAny_bind (wpAny_field hz rfl (x := .bool false) rfl ?_)
  show wpAny _ _ (field (.ref z) 3 >>= _) _ _ _
  refine wpAny_bind (wpAny_field hz rfl (x := .ref TI) rfl ?_)
  refine wpAny_bind (wpAny_seqItems hTI rfl ?_)
  show wpAny _ _ (Builtin.SmallTypes.ownedTupleIsFree (.ref z) >>= _) _ _ _
  refine wpAny_bind ?_
  unfold Builtin.SmallTypes.ownedTupleIsFree
  refine wpAny_bind (wpAny_field hz rfl (x := .none) rfl (wpAny_pure ?_))
  simp only [if_true]
  refine wpAny_bind (wpAny_rule ?_)
  refine wpAny_bind (wpAny_field hz rfl (x := .ref TO) rfl ?_)
  refine wpAny_bind (wpAny_setField_rec hz (by simp) fun h₁ hz₁ hs₁ => ?_)
  replace hz₁ : IsZip h₁ z TI TO .ellipsis := hz₁
  refine wpAny_bind ?_
  simp only [List.zipIdx_cons, List.zipIdx_nil, List.forIn_cons, List.forIn_nil]
  refine wpAny_bind (wpAny_bind (wpAny_onRaise ?_))
  show wpAny _ _ (Builtin.SmallTypes.nextOf (.ref i1) >>= _) _ _ _
  cases hx : xs[k]? with
  | none =>
    refine wpAny_bind (S1.stop _ _ _ k _ hh (kp1 D.i1z.symm D.l1z.symm hs₁.extBut h1) hx fun h₂ e hs₂ he => ?_)
    obtain ⟨oe, hoe, hce⟩ := he
    have hz₂ : IsZip h₂ z TI TO .ellipsis := hs₂ _ _ D.i1z.symm hz₁
    have hez : e ≠ z := fun x => by subst x; rw [hz₂] at hoe; cases hoe; simp at hce
    refine wpAny_setField_rec hz₂ (by simp) fun h₃ _ hs₃ => hE h₃ e (fun c o c1 _ c3 _ x => hs₃.extBut _ _ c1 (hs₂ _ _ c3 (hs₁.extBut _ _ c1 x))) ⟨oe, hs₃.extBut _ _ hez hoe, hce⟩
  | some x =>
    have hy : ys[k]? = none := by rcases hend with h | h; rw [hx] at h; cases h; exact h
    refine wpAny_bind (S1.item _ _ _ k x _ (kp1 D.i1z.symm D.l1z.symm hs₁.extBut h1) hx fun h₂ h1₂ hs₂ => wpAny_pure ?_)
    have hTO₂ : IsPair h₂ TO a b := hs₂.extBut _ _ D.TOi1 (hs₁.extBut _ _ D.TOz hTO)
    refine wpAny_bind (wpAny_seqItems hTO₂ rfl ?_)
    refine wpAny_bind (wpAny_updateSeq_pair hTO₂ fun h₃ hTO₃ hs₃ => ?_)
    refine wpAny_bind (wpAny_letGo (wpAny_pure ?_))
    refine wpAny_bind (wpAny_bind (wpAny_onRaise ?_))
    show wpAny _ _ (Builtin.SmallTypes.nextOf (.ref i2) >>= _) _ _ _
    refine wpAny_bind (S2.stop _ _ _ k _ hh (kp2 D.TOi2 D.l2TO.symm hs₃.extBut (kp2 D.i12 D.l2i1.symm hs₂.extBut (kp2 D.i2z.symm D.l2z.symm hs₁.extBut h2))) hy fun h₄ e hs₄ he => ?_)
    obtain ⟨oe, hoe, hce⟩ := he
    have hz₄ : IsZip h₄ z TI TO .ellipsis := hs₄ _ _ D.i2z.symm (hs₃.extBut _ _ D.TOz.symm (hs₂.extBut _ _ D.i1z.symm hz₁))
    have hez : e ≠ z := fun x => by subst x; rw [hz₄] at hoe; cases hoe; simp at hce
    refine wpAny_setField_rec hz₄ (by simp) fun h₅ _ hs₅ => hE h₅ e (fun c o c1 c2 c3 c4 x => hs₅.extBut _ _ c1 (hs₄ _ _ c4 (hs₃.extBut _ _ c2 (hs₂.extBut _ _ c3 (hs₁.extBut _ _ c1 x))))) ⟨oe, hs₅.extBut _ _ hez hoe, hce⟩
theorem nextZ_item {k : Nat} {x y a b : Value} {Q : Option Value → Shared → Prop} (D : ZipApart z TI TO i1 i2 l1 l2) (S1 : ZSrc prog w i1 l1 xs P1) (S2 : ZSrc prog w i2 l2 ys P2)
    (hz : IsZip s.heap z TI TO .none) (hTI : IsPair s.heap TI (.ref i1) (.ref i2)) (hTO : IsPair s.heap TO a b) (h1 : P1 k s.heap) (h2 : P2 k s.heap) (hx : xs[k]? = some x) (hy : ys[k]? = some y)
    (hQ : ∀ h', IsZip h' z TI TO (rawInt s.heap.objs.size) → IsPair h' TO x y → P1 (k + 1) h' → P2 (k + 1) h' → IsPair h' s.heap.objs.size x y → h'.objs.size = s.heap.objs.size + 1 →
      (∀ c o, c ≠ z → c ≠ TO → c ≠ i1 → c ≠ i2 → s.heap.get? c = some o → h'.get? c = some o) → Q (some (.ref s.heap.objs.size)) { s with heap := h' }) :
    wpAny (model prog w) A (pyNext (.ref z)) Q E s := by
  have hT : s.TypeIs (.ref z) "zip" := ⟨_, hz, rfl⟩
  unfold pyNext
  exact wpAny_bind (wpAny_attempt (wpAny_callSpecial?_slot (name := Str.ofString "__next__") hT F.slot_zip_next
    (wpAny_call_entry F.slot_zip_next hT F.entry_zip_next
      (zipG_item D S1 S2 hz hTI hTO h1 h2 hx hy fun h' a1 a2 a3 a4 a5 a6 a7 => wpAny_pure (hQ h' a1 a2 a3 a4 a5 a6 a7)) (F.args_zip_next_1 _))))
theorem nextZ_end {k : Nat} {a b : Value} {Q : Option Value → Shared → Prop} (hh : A.handled = none) (D : ZipApart z TI TO i1 i2 l1 l2) (S1 : ZSrc prog w i1 l1 xs P1) (S2 : ZSrc prog w i2 l2 ys P2)
    (hz : IsZip s.heap z TI TO .none) (hTI : IsPair s.heap TI (.ref i1) (.ref i2)) (hTO : IsPair s.heap TO a b) (h1 : P1 k s.heap) (h2 : P2 k s.heap) (hend : xs[k]? = none ∨ ys[k]? = none)
    (hQ : ∀ h', (∀ c o, c ≠ z → c ≠ TO → c ≠ i1 → c ≠ i2 → s.heap.get? c = some o → h'.get? c = some o) → Q none { s with heap := h' }) : wpAny (model prog w) A (pyNext (.ref z)) Q E s := by
  have hT : s.TypeIs (.ref z) "zip" := ⟨_, hz, rfl⟩
  unfold pyNext
  refine wpAny_bind (wpAny_attempt (wpAny_callSpecial?_slot (name := Str.ofString "__next__") hT F.slot_zip_next
    (wpAny_call_entry F.slot_zip_next hT F.entry_zip_next (zipG_end hh D S1 S2 hz hTI hTO h1 h2 hend fun h' e hk he => ?_) (F.args_zip_next_1 _))))
  obtain ⟨o, ho, hc⟩ := he
  refine wpAny_bind (wpAny_isInstance (T := "StopIteration") (b := true) ⟨o, ho, hc⟩ isSubtype_stop ?_)
  exact wpAny_pure (hQ _ hk)
theorem meets_zipG (l1 l2 : Addr) (o1 o2 : Obj) (C1 C2 : Heap → Prop) (k1 : ∀ h o, C1 h → C1 (h.push o)) (k2 : ∀ h o, C2 h → C2 (h.push o))
    (it1 : ∀ (prog : Program) (w : World) (A : Around) (E : Value → Shared → Prop) (s : Shared) (Q : Value → Shared → Prop), C1 s.heap → Q (.ref s.heap.objs.size) { s with heap := s.heap.push o1 } → wpAny (model prog w) A (pyIter (.ref l1)) Q E s)
    (it2 : ∀ (prog : Program) (w : World) (A : Around) (E : Value → Shared → Prop) (s : Shared) (Q : Value → Shared → Prop), C2 s.heap → Q (.ref s.heap.objs.size) { s with heap := s.heap.push o2 } → wpAny (model prog w) A (pyIter (.ref l2)) Q E s) :
    Meets (Builtin.«zip.__new__» ⟨[.type "zip", .ref l1, .ref l2], []⟩) (fun _ R s => C1 s.heap ∧ C2 s.heap ∧
      R (.ok (.ret (.ref ((((s.heap.push o1).push o2).push { cls := .type "tuple", data := .seq #[.ref s.heap.objs.size, .ref (s.heap.push o1).objs.size] }).push { cls := .type "tuple", data := .seq #[.none, .none] }).objs.size)))
        { s with heap := ((((s.heap.push o1).push o2).push { cls := .type "tuple", data := .seq #[.ref s.heap.objs.size, .ref (s.heap.push o1).objs.size] }).push { cls := .type "tuple", data := .seq #[.none, .none] }).push { cls := .type "zip", data := .fields #[.none, .bool false, .bool false, .ref ((s.heap.push o1).push o2).objs.size, .ref (((s.heap.push o1).push o2).push { cls := .type "tuple", data := .seq #[.ref s.heap.objs.size, .ref (s.heap.push o1).objs.size] }).objs.size] } }) :=
  .of_wp fun prog w A R s h => by
    obtain ⟨hp, g, d, tk, os⟩ := s; obtain ⟨c1, c2, h⟩ := h
    have hsub := sub_zip
    have i1 := fun (A : Around) (E : Value → Shared → Prop) (Q : Value → Shared → Prop) => it1 prog w A E ⟨hp, g, d, tk, os⟩ Q c1
    have i2 := fun (A : Around) (E : Value → Shared → Prop) (Q : Value → Shared → Prop) => it2 prog w A E ⟨hp.push o1, g, d, tk, os⟩ Q (k2 _ _ c2)
    wp_walk using i1 _ _ _, i2 _ _ _
    exact ⟨_, rfl, h⟩
end
end PySem

set_option maxHeartbeats 4000000
namespace L2
open PySem PySem.Spec PyProof.Rows
def sqB (b : Bool) (K : PySem.W.Frag) (H : Hp) (l : Addr) (xs : List V) : Prop := match b with
  | true => SqT K H l xs
  | false => SqL K H l xs
def itB (b : Bool) (h : Heap) (i l : Addr) (k : Nat) : Prop := match b with
  | true => h.IsTupleIter i l k
  | false => h.IsListIter i l k
def ctB (b : Bool) (h : Heap) (l : Addr) (xs : Array Value) : Prop := match b with
  | true => h.IsTuple l xs
  | false => h.IsList l xs
def itO (b : Bool) (l : Addr) : Obj := { cls := .type (if b then "tuple_iterator" else "list_iterator"), data := .fields #[.ref l, .int 0 0] }
theorem srcB {prog : Program} {w : World} {i l : Addr} (b : Bool) (ne : l ≠ i) (xs : Array Value) : ZSrc prog w i l xs fun k h => itB b h i l k ∧ ctB b h l xs := by
  cases b
  · exact ZSrc.list ne xs
  · exact ZSrc.tup ne xs
theorem itB.obj {b : Bool} {h : Heap} {i l : Addr} {k : Nat} (x : itB b h i l k) : ∃ o, h.get? i = some o ∧ ∀ v, o.data ≠ .cell v := by
  cases b
  · obtain ⟨o, e, c, d⟩ := x; exact ⟨o, e, fun v z => by rw [d] at z; cases z⟩
  · obtain ⟨o, e, c, d⟩ := x; exact ⟨o, e, fun v z => by rw [d] at z; cases z⟩
theorem itB.at {b : Bool} {h h' : Heap} {i l : Addr} {k : Nat} (x : itB b h i l k) (e : ∀ o, h.get? i = some o → h'.get? i = some o) : itB b h' i l k := by
  cases b
  · exact Heap.IsListIter.at x e
  · exact Heap.IsTupleIter.at x e
theorem ctB.at {b : Bool} {h h' : Heap} {l : Addr} {xs : Array Value} (x : ctB b h l xs) (e : ∀ o, h.get? l = some o → h'.get? l = some o) : ctB b h' l xs := by
  cases b
  · exact Heap.IsList.at x e
  · exact Heap.IsTuple.at x e
theorem ctB.lt {b : Bool} {h : Heap} {l : Addr} {xs : Array Value} (x : ctB b h l xs) : l < h.objs.size := by
  cases b
  · obtain ⟨o, e, _⟩ := x; exact Heap.lt_size e
  · obtain ⟨o, e, _⟩ := x; exact Heap.lt_size e
theorem itO_it {b : Bool} {h : Heap} {i l : Addr} (e : h.get? i = some (itO b l)) : itB b h i l 0 := by
  cases b
  · exact ⟨_, e, rfl, rfl⟩
  · exact ⟨_, e, rfl, rfl⟩
theorem iterB {b : Bool} {l : Addr} {xs : Array Value} (prog : Program) (w : World) (A : Around) (E : Value → Shared → Prop) (s : Shared) (Q : Value → Shared → Prop) (x : ctB b s.heap l xs) (q : Q (.ref s.heap.objs.size) { s with heap := s.heap.push (itO b l) }) :
    wpAny (model prog w) A (pyIter (.ref l)) Q E s := by
  cases b
  · exact wpAny_pyIter_list x q
  · exact wpAny_pyIter_tuple x q
section
variable {X : Cx} {pins : List (Addr × Obj)} {σ : St} {H : Hp} {s : Shared}
theorem Inv.seqB (I : Inv X pins σ H s) {b : Bool} {l : Addr} {xs : List V} (h : sqB b X.K H l xs) : ∃ its : List Value, Vals xs its ∧ ctB b s.heap l its.toArray ∧ xs.length ≤ sizeLine := by
  cases b
  · obtain ⟨its, r, p, z⟩ := I.list h; exact ⟨its, r, p.isList, z⟩
  · obtain ⟨its, r, p, z⟩ := I.tuple h; exact ⟨its, r, p, z⟩
theorem Inv.injB (I : Inv X pins σ H s) {b : Bool} {l : Addr} {xs ys : List V} (h : sqB b X.K H l xs) (h' : sqB b X.K H l ys) : xs = ys := by
  cases b
  · exact I.list_inj h h'
  · exact I.tuple_inj h h'
theorem Inv.turnedL {h' : Heap} {t' : Nat} {ch : List Addr} (I : Inv X pins σ H s) (k : ∀ b o, b ∉ ch → s.heap.get? b = some o → h'.get? b = some o) (f : ∀ b ∈ ch, FpOk X pins H b) : Inv X pins σ H { s with heap := h', toks := t' } := by
  have nit : ∀ b u, H b = some u → b ∉ ch := fun b u e z => by rw [(f b z).1] at e; cases e
  refine I.step (g' := s.gens) (d' := s.drawn) (ch := ch) (fun b hb => ?_) (fun b o _ _ hc e _ => k b o hc e) (fun b o _ _ hc e _ => ⟨o.slots, k b o hc e⟩) (fun _ _ _ _ n => n)
    (fun b o hc e => ⟨o, k b o hc e⟩) (fun _ _ e => e) (fun _ _ _ e => e) (fun b ps e => ⟨#[], by rw [e]; simp⟩) (fun m hm => ?_) (fun b u e => ?_) I.bare
  · obtain ⟨f0, f1, f2, f3, f4, f5⟩ := f b hb
    exact ⟨f3, f1, f4, f5⟩
  · obtain ⟨o, es, ep, ho, r⟩ := hm
    exact ⟨o, es, ep, k _ o (fun z => (f _ z).2.1 rfl) ho, r⟩
  · refine (I.hok b u e).stay (fun c v hc q => k c v ?_ q) (fun _ q => q) fun _ _ q => q
    rcases hc with z | z
    · rw [z]; exact nit b u e
    · exact nit c _ z
end
def Itz (b1 b2 : Bool) (K : PySem.W.Frag) (l1 l2 : Addr) : It :=
  ⟨fun i H => ∃ xs ys, sqB b1 K H l1 xs ∧ sqB b2 K H l2 ys ∧ i < xs.length ∧ i < ys.length,
   fun i H v H' => ∃ T, v = .ref T ∧ H T = none ∧ ∀ xs ys x y, sqB b1 K H l1 xs → sqB b2 K H l2 ys → xs[i]? = some x → ys[i]? = some y → H' = upd H T (.tup [x, y]),
   fun i H => ∃ xs ys, sqB b1 K H l1 xs ∧ sqB b2 K H l2 ys ∧ (xs.length ≤ i ∨ ys.length ≤ i)⟩
def ZAt (b1 b2 : Bool) (z TI TO i1 i2 l1 l2 : Addr) (i : Nat) (h : Heap) : Prop := IsZip h z TI TO .none ∧ IsPair h TI (.ref i1) (.ref i2) ∧ (∃ a b, IsPair h TO a b) ∧ itB b1 h i1 l1 i ∧ itB b2 h i2 l2 i
theorem turn_zip {P : Program} {w : World} {K : PySem.W.Frag} {elts : List Expr} {kk} {pos : Pos} (b1 b2 : Bool) (z TI TO i1 i2 l1 l2 : Addr) (D : ZipApart z TI TO i1 i2 l1 l2) :
    Turn P w K (.Tuple elts kk pos) (Itz b1 b2 K l1 l2) [z, TI, TO, i1, i2] z (ZAt b1 b2 z TI TO i1 i2 l1 l2) where
  mem := by simp
  obj := fun i h st b hb => by
    obtain ⟨hz, hTI, ⟨a, c, hTO⟩, h1, h2⟩ := st
    simp only [List.mem_cons, List.not_mem_nil, or_false] at hb
    rcases hb with rfl | rfl | rfl | rfl | rfl
    · exact ⟨_, hz, fun v z => by cases z⟩
    · exact ⟨_, hTI, fun v z => by cases z⟩
    · exact ⟨_, hTO, fun v z => by cases z⟩
    · exact h1.obj
    · exact h2.obj
  keep := fun i h h' st k => by
    obtain ⟨hz, hTI, ⟨a, c, hTO⟩, h1, h2⟩ := st
    exact ⟨k z (by simp) _ hz, k TI (by simp) _ hTI, ⟨a, c, k TO (by simp) _ hTO⟩, h1.at fun o e => k i1 (by simp) o e, h2.at fun o e => k i2 (by simp) o e⟩
  item := by
    intro X hP hw hK hc i pins s σ H E I hf st hg
    subst hP hw hK
    obtain ⟨xs, ys, q1, q2, l1', l2'⟩ := hg
    obtain ⟨its1, r1, c1, z1⟩ := I.seqB q1
    obtain ⟨its2, r2, c2, z2⟩ := I.seqB q2
    obtain ⟨hz, hTI, ⟨a, c, hTO⟩, h1, h2⟩ := st
    have ex : xs[i]? = some xs[i] := List.getElem?_eq_getElem l1'
    have ey : ys[i]? = some ys[i] := List.getElem?_eq_getElem l2'
    obtain ⟨u, hu, ru⟩ := r1.get ex
    obtain ⟨v, hv, rv⟩ := r2.get ey
    refine nextZ_item D (srcB b1 D.l1i1 its1.toArray) (srcB b2 D.l2i2 its2.toArray) hz hTI hTO ⟨h1, c1⟩ ⟨h2, c2⟩ (x := u) (y := v) (by simpa using hu) (by simpa using hv) fun h' a1 a2 a3 a4 a5 a6 hk => ?_
    refine ⟨_, rfl, wpAny_letOwnedTupleGo_zip (s := { s with heap := h' }) a1 fun h'' hz'' sb => ?_⟩
    have nT : ∀ b ∈ [z, TI, TO, i1, i2], s.heap.objs.size ≠ b := fun b hb e => by
      simp only [List.mem_cons, List.not_mem_nil, or_false] at hb
      rcases hb with rfl | rfl | rfl | rfl | rfl
      · exact Nat.lt_irrefl _ (e ▸ Heap.lt_size hz)
      · exact Nat.lt_irrefl _ (e ▸ Heap.lt_size hTI)
      · exact Nat.lt_irrefl _ (e ▸ Heap.lt_size hTO)
      · obtain ⟨_, q, _⟩ := h1.obj; exact Nat.lt_irrefl _ (e ▸ Heap.lt_size q)
      · obtain ⟨_, q, _⟩ := h2.obj; exact Nat.lt_irrefl _ (e ▸ Heap.lt_size q)
    have kp : ∀ b o, b ∉ [z, TO, i1, i2] → s.heap.get? b = some o → h''.get? b = some o := fun b o hb e => by
      simp only [List.mem_cons, List.not_mem_nil, or_false, not_or] at hb
      exact sb.extBut b o hb.1 (hk b o hb.1 hb.2.1 hb.2.2.1 hb.2.2.2 e)
    have I1 : Inv X pins σ H { s with heap := h'' } := I.turnedL (t' := s.toks) (ch := [z, TO, i1, i2]) kp fun b hb => hf b (by
      simp only [List.mem_cons, List.not_mem_nil, or_false] at hb ⊢
      rcases hb with z | z | z | z <;> simp [z])
    have T'' : IsPair h'' s.heap.objs.size u v := sb.extBut _ _ (nT z (by simp)) a5
    have hfree : H s.heap.objs.size = none := I.hok.fresh (Nat.le_refl _)
    have I2 : Inv X pins σ (upd H s.heap.objs.size (.tup [xs[i], ys[i]])) { s with heap := h'' } := by
      have Im : Inv X pins σ (upd H s.heap.objs.size (.tup [xs[i], ys[i]])) { s with heap := s.heap.push { cls := .type "tuple", data := .seq #[u, v] } } := I.laid (t' := s.toks) (fun b o e => Heap.get?_push_of_some _ e) (Nat.le_refl _)
        (show ObjOk X.prog X.w _ _ _ (.tup [xs[i], ys[i]]) from ⟨small_line (by show 2 ≤ 1000; decide), [u, v], .cons ru (.cons rv .nil), ⟨_, Heap.get?_push_size _ rfl, rfl, _, rfl⟩⟩)
      refine Inv.turnedL (s := { s with heap := s.heap.push { cls := .type "tuple", data := .seq #[u, v] } }) (t' := s.toks) (ch := [z, TO, i1, i2]) Im (fun b o hb e => ?_) fun b hb => ?_
      · rcases Heap.get?_push_cases e with ⟨rfl, rfl⟩ | e
        · exact T''
        · exact kp b o hb e
      · have hb' : b ∈ [z, TI, TO, i1, i2] := by
          simp only [List.mem_cons, List.not_mem_nil, or_false] at hb ⊢
          rcases hb with z | z | z | z <;> simp [z]
        obtain ⟨f0, f1⟩ := hf b hb'
        exact ⟨by rw [upd_ne (nT b hb').symm]; exact f0, f1⟩
    refine ⟨.ref s.heap.objs.size, _, I2, rfl, ⟨_, rfl, hfree, fun xs' ys' x' y' e1 e2 e3 e4 => ?_⟩, ⟨hz'', sb.extBut _ _ D.TIz (hk _ _ D.TIz D.TITO D.TIi1 D.TIi2 hTI), ⟨u, v, sb.extBut _ _ D.TOz a2⟩, a3.1.at fun o e => sb.extBut _ _ D.i1z e, a4.1.at fun o e => sb.extBut _ _ D.i2z e⟩, fun b hb => ?_⟩
    · rw [I.injB e1 q1, ex] at e3
      rw [I.injB e2 q2, ey] at e4
      cases e3; cases e4; rfl
    · rw [upd_ne (nT b hb).symm]; exact (hf b hb).1
  done := by
    intro X hP hw hK hc i pins s σ H E I hf st hg
    subst hP hw hK
    obtain ⟨xs, ys, q1, q2, hl⟩ := hg
    obtain ⟨its1, r1, c1, z1⟩ := I.seqB q1
    obtain ⟨its2, r2, c2, z2⟩ := I.seqB q2
    obtain ⟨hz, hTI, ⟨a, c, hTO⟩, h1, h2⟩ := st
    have e1 := r1.length
    have e2 := r2.length
    refine nextZ_end (I.ok.hd hc) D (srcB b1 D.l1i1 its1.toArray) (srcB b2 D.l2i2 its2.toArray) hz hTI hTO ⟨h1, c1⟩ ⟨h2, c2⟩ (by
      rcases hl with h | h
      · exact .inl (by rw [Array.getElem?_eq_none]; simp; omega)
      · exact .inr (by rw [Array.getElem?_eq_none]; simp; omega)) fun h' hk => ⟨rfl, I.turnedL (t' := s.toks) (ch := [z, TO, i1, i2]) (fun b o hb e => by
        simp only [List.mem_cons, List.not_mem_nil, or_false, not_or] at hb
        exact hk b o hb.1 hb.2.1 hb.2.2.1 hb.2.2.2 e) fun b hb => hf b (by
        simp only [List.mem_cons, List.not_mem_nil, or_false] at hb ⊢
        rcases hb with z | z | z | z <;> simp [z])⟩
  self := fun _ _ _ _ _ st h => wpAny_pyIter_zip st.1 h
theorem call_zipB {prog : Program} {w : World} {A : Around} {E : Value → Shared → Prop} {s : Shared} {b1 b2 : Bool} {l1 l2 : Addr} {xs ys : Array Value} {Q : Value → Shared → Prop} (c1 : ctB b1 s.heap l1 xs) (c2 : ctB b2 s.heap l2 ys)
    (h : ∀ h', ZAt b1 b2 (s.heap.objs.size + 4) (s.heap.objs.size + 2) (s.heap.objs.size + 3) s.heap.objs.size (s.heap.objs.size + 1) l1 l2 0 h' → (∀ c o, s.heap.get? c = some o → h'.get? c = some o) → Q (.ref (s.heap.objs.size + 4)) { s with heap := h' }) :
    wpAny (model prog w) A (call (.type "zip") [.ref l1, .ref l2]) Q E s := by
  refine callType_new F.called_zip (by decide) (F.typeCall_zip_2 _ _) (F.newCall_zip_2 _ _) (fun obj => F.args_object_init_3 obj _ _) F.entry_zip_new
    (meets_zipG l1 l2 (itO b1 l1) (itO b2 l2) (fun h => ctB b1 h l1 xs) (fun h => ctB b2 h l2 ys) (fun h o x => x.at fun o' e => Heap.get?_push_of_some _ e) (fun h o x => x.at fun o' e => Heap.get?_push_of_some _ e) (fun prog w A E s Q x q => iterB prog w A E s Q x q) (fun prog w A E s Q x q => iterB prog w A E s Q x q)) ⟨c1, c2, ?_⟩
  generalize hh1 : s.heap.push (itO b1 l1) = H1
  have z1 : H1.objs.size = s.heap.objs.size + 1 := by rw [← hh1]; exact Heap.size_push ..
  have e1 : H1.get? s.heap.objs.size = some (itO b1 l1) := by rw [← hh1]; exact Heap.get?_push_size _ rfl
  have k1 : ∀ c o, s.heap.get? c = some o → H1.get? c = some o := fun c o e => by rw [← hh1]; exact Heap.get?_push_of_some _ e
  generalize hh2 : H1.push (itO b2 l2) = H2
  have z2 : H2.objs.size = s.heap.objs.size + 2 := by rw [← hh2, Heap.size_push, z1]
  have e2 : H2.get? (s.heap.objs.size + 1) = some (itO b2 l2) := by rw [← hh2, ← z1]; exact Heap.get?_push_size _ rfl
  have k2 : ∀ c o, H1.get? c = some o → H2.get? c = some o := fun c o e => by rw [← hh2]; exact Heap.get?_push_of_some _ e
  rw [z1]
  generalize hh3 : H2.push { cls := .type "tuple", data := .seq #[.ref s.heap.objs.size, .ref (s.heap.objs.size + 1)] } = H3
  have z3 : H3.objs.size = s.heap.objs.size + 3 := by rw [← hh3, Heap.size_push, z2]
  have e3 : IsPair H3 (s.heap.objs.size + 2) (.ref s.heap.objs.size) (.ref (s.heap.objs.size + 1)) := by rw [← hh3, ← z2]; exact Heap.get?_push_size _ rfl
  have k3 : ∀ c o, H2.get? c = some o → H3.get? c = some o := fun c o e => by rw [← hh3]; exact Heap.get?_push_of_some _ e
  generalize hh4 : H3.push { cls := .type "tuple", data := .seq #[.none, .none] } = H4
  have z4 : H4.objs.size = s.heap.objs.size + 4 := by rw [← hh4, Heap.size_push, z3]
  have e4 : IsPair H4 (s.heap.objs.size + 3) .none .none := by rw [← hh4, ← z3]; exact Heap.get?_push_size _ rfl
  have k4 : ∀ c o, H3.get? c = some o → H4.get? c = some o := fun c o e => by rw [← hh4]; exact Heap.get?_push_of_some _ e
  rw [z2, z3, z4]
  have e5 : IsZip (H4.push { cls := .type "zip", data := .fields #[.none, .bool false, .bool false, .ref (s.heap.objs.size + 2), .ref (s.heap.objs.size + 3)] }) (s.heap.objs.size + 4) (s.heap.objs.size + 2) (s.heap.objs.size + 3) .none := by rw [← z4]; exact Heap.get?_push_size _ rfl
  have k5 : ∀ c o, H4.get? c = some o → (H4.push { cls := .type "zip", data := .fields #[.none, .bool false, .bool false, .ref (s.heap.objs.size + 2), .ref (s.heap.objs.size + 3)] }).get? c = some o := fun c o e => Heap.get?_push_of_some _ e
  exact ⟨⟨_, e5, rfl⟩, h _ ⟨e5, k5 _ _ (k4 _ _ e3), ⟨_, _, k5 _ _ e4⟩, itO_it (k5 _ _ (k4 _ _ (k3 _ _ (k2 _ _ e1)))), itO_it (k5 _ _ (k4 _ _ (k3 _ _ e2)))⟩ fun c o e => k5 _ _ (k4 _ _ (k3 _ _ (k2 _ _ (k1 _ _ e))))⟩
section
variable {X : Cx} {elts : List Expr} {kk : Nat} {tpos p pos : Pos} {e1 e2 : Expr} {t1 t2 : TE}
def iZip (b1 b2 : Bool) (K : PySem.W.Frag) (t1 t2 : TE) : TI := fun σ H R => t1 σ H fun x H1 => t2 σ H1 fun y H2 => ∃ l1 l2 xs ys, x = .ref l1 ∧ y = .ref l2 ∧ sqB b1 K H2 l1 xs ∧ sqB b2 K H2 l2 ys ∧ R (Itz b1 b2 K l1 l2) H2
theorem pi_zip (b1 b2 : Bool) (hg : Gl X "zip") (hm : X.mg "zip" = none) (h1 : PE X e1 t1) (h2 : PE X e2 t2) (hs : starEach [e1, e2] X.env = [(false, eval e1 X.env), (false, eval e2 X.env)] := by rfl) (hs2 : starEach [e2] X.env = [(false, eval e2 X.env)] := by rfl) :
    PI X (.Tuple elts kk tpos) (.Call (.Name "zip" p) [e1, e2] [] pos) (iZip b1 b2 X.K t1 t2) := by
  intro pins s σ H R I h
  refine Call_ (ld_blt I hg hm PyProof.Rows.Boot.«zip» (PyProof.Rows.callWith_type1 (thn (pa_cons h1 (pa_cons h2 pa_nil hs2) (by rw [hs, hs2]) pos pins s σ H (fun vs H1 => match vs with | [x, y] => ∃ l1 l2 xs ys, x = .ref l1 ∧ y = .ref l2 ∧ sqB b1 X.K H1 l1 xs ∧ sqB b2 X.K H1 l2 ys ∧ R (Itz b1 b2 X.K l1 l2) H1 | _ => False) I h) fun us s1 ⟨vs, H1, I1, r1, q1⟩ => ?_) (by rw [hs, hs2]) (by rw [hs2]; rfl)))
  match vs, q1 with
  | [x, y], q1 =>
    obtain ⟨l1, l2, xs, ys, rfl, rfl, q1, q2, q⟩ := q1
    cases r1 with
    | cons ra rr =>
      cases rr with
      | cons rb rr =>
        cases rr
        cases ra
        cases rb
        obtain ⟨its1, v1, c1, z1⟩ := I1.seqB q1
        obtain ⟨its2, v2, c2, z2⟩ := I1.seqB q2
        refine call_zipB c1 c2 fun h' za kp => ?_
        refine wpAny_pyIter_zip (s := { s1 with heap := h' }) za.1 ?_
        refine ⟨s1.heap.objs.size + 4, _, _, _, H1, rfl, I1.kept (t' := s1.toks) kp, turn_zip b1 b2 _ _ _ _ _ l1 l2 (PySem.W.ktu_apart _ _ _ c1.lt c2.lt), za, fun b hb => ?_, q⟩
        simp only [List.mem_cons, List.not_mem_nil, or_false] at hb
        have hle : s1.heap.objs.size ≤ b := by
          rcases hb with rfl | rfl | rfl | rfl | rfl
          · exact Nat.le_add_right _ _
          · exact Nat.le_add_right _ _
          · exact Nat.le_add_right _ _
          · exact Nat.le_refl _
          · exact Nat.le_add_right _ _
        exact I1.fpOk hle (I1.hok.fresh hle)
end
section
variable {X : Cx}
theorem pg_tupK {K : PySem.W.Frag} {es : List Expr} {k : Nat} {t : TGs} {n : Nat} {pos : Pos} (hK : X.K = K) (hc : X.calm = true) (h : PGs X es t)
    (hn : (assignEach es X.env).length = n := by rfl) (hst : (assignEach es X.env).findIdx? (·.1) = none := by rfl) : PG X (.Tuple es k pos) (gTup K n t) := by
  subst hK
  exact pg_tup hc h hn hst
end
end L2


set_option maxHeartbeats 4000000
local macro_rules | `(tactic| walk_at "lk") => `(tactic| first | exact L2.lk_eq | (apply L2.lk_next; (first | done | decide +kernel); walk_at "lk") | exact rfl)
local macro_rules | `(tactic| walk_at "hp") => `(tactic| first | assumption | exact L2.upd_same | (apply L2.up_old; (first | done | assumption); walk_at "hp") | (apply L2.up_ne; (first | done | assumption); walk_at "hp"))
local macro_rules | `(tactic| walk_at "ty") => `(tactic| first | assumption | exact L2.TyE.of (L2.TyOf.int _) | exact L2.TyE.of (L2.TyOf.bl _) | exact L2.TyE.of L2.TyOf.non | exact L2.TyE.of (L2.TyOf.str _) | (apply L2.TyE.of; apply L2.TyOf.lst; walk_at "hp") | (apply L2.TyE.of; apply L2.TyOf.tup; walk_at "hp") | (apply L2.TyE.of; apply L2.TyOf.dK; walk_at "hp"))
local macro_rules | `(tactic| walk_at "cl") => `(tactic| first | (with_reducible show (_ : Int) ≤ _; omega) | (with_reducible show (_ : Int) < _; omega) | (with_reducible show (_ : Nat) ≤ _; omega) | (with_reducible show (_ : Nat) < _; omega) | (with_reducible assumption) | exact rfl | assumption | (with_reducible apply L2.SqL.of; walk_at "hp") | (with_reducible apply L2.SqT.of; walk_at "hp") | walk_at "hp" | ((with_reducible apply Or.inl); assumption) | ((with_reducible apply Or.inr); assumption) | (with_reducible apply Or.inl; with_reducible apply L2.SqL.of; walk_at "hp") | (with_reducible apply Or.inr; with_reducible apply L2.SqT.of; walk_at "hp") | (apply Or.inl; refine And.intro rfl ?_; apply Exists.intro; apply L2.SqL.of; walk_at "hp") | walk_at "lk" | walk_at "ty" | exact L2.kit_self _ _ | exact L2.kit_ib _ | exact L2.one_line | exact L2.small_line (Nat.le_of_ble_eq_true rfl) | (show List.length _ < _; exact Nat.le_of_ble_eq_true rfl) | omega | (apply Exists.intro; with_reducible apply L2.SqL.of; walk_at "hp") | (apply Exists.intro; with_reducible apply L2.SqT.of; walk_at "hp") | (apply Or.inr; refine ⟨?_, ?_⟩ <;> omega) | (apply Or.inl; refine ⟨?_, ?_⟩ <;> omega) | decide | (show (0 : Int) < _; first | decide | omega | assumption) | (refine ⟨?_, ?_⟩ <;> decide) | (refine ⟨?_, ?_, ?_⟩ <;> decide) )
local macro_rules | `(tactic| walk_at "sm") => `(tactic| first | assumption | exact L2.Same.refl _ | (apply L2.sm_upd; (first | done | assumption); walk_at "sm"))
local macro_rules | `(tactic| walk_at "ex") => `(tactic| ((fail_if_success (refine L2.exW ?_ ?_)); (fail_if_success (refine L2.exW2 ?_ ?_)); (fail_if_success (refine L2.exN ?_ ?_)); (fail_if_success (refine L2.exD ?_ ?_)); apply Exists.intro))
local macro_rules | `(tactic| walk_at "go") => `(tactic| repeat (first | (apply And.intro; (walk_at "cl")) | walk_at "ex"))
local macro_rules | `(tactic| walk_at "gi") => `(tactic| repeat (first | (apply And.intro; (walk_at "cl")) | walk_at "ex" | intro))
namespace K30
open PySem L2
def top (i : Nat) : Stmt := PySem.Challenge.pw_leafframe_k30_pool_refused.main.body.getD i (.Pass ⟨0, 0, 0, 0⟩)
abbrev s_Counts___init__ : Stmt := inClass (top 21) 0
abbrev s_Counts_of : Stmt := inClass (top 21) 5
abbrev s_Counts_check_taken : Stmt := inClass (top 21) 6
abbrev s_Counts_more : Stmt := inClass (top 21) 2
abbrev s_Counts_less : Stmt := inClass (top 21) 3
abbrev s_Counts_freed : Stmt := inClass (top 21) 4
abbrev s_Counts_free : Stmt := inClass (top 21) 8
abbrev s_Counts_told : Stmt := inClass (top 21) 7
abbrev s_Counts_taken : Stmt := inClass (top 21) 1
abbrev s_is_word : Stmt := top 24
abbrev s_check_word : Stmt := top 25
abbrev s_Store___init__ : Stmt := inClass (top 26) 0
abbrev s_Store_check_words : Stmt := inClass (top 26) 1
abbrev s_Store_check_place : Stmt := inClass (top 26) 2
abbrev s_Store_made : Stmt := inClass (top 26) 3
abbrev s_Store_words : Stmt := inClass (top 26) 4
abbrev s_Store_word : Stmt := inClass (top 26) 5
abbrev s_Store_put : Stmt := inClass (top 26) 6
abbrev s_Store_count : Stmt := inClass (top 26) 7
abbrev s_Store_more : Stmt := inClass (top 26) 8
abbrev s_Store_less : Stmt := inClass (top 26) 9
abbrev s_Store_gone : Stmt := inClass (top 26) 10
abbrev s_Store_counts : Stmt := inClass (top 26) 11
abbrev s_Store_free : Stmt := inClass (top 26) 12
abbrev s_Hand___init__ : Stmt := inClass (top 11) 0
abbrev s_Hand_mark : Stmt := inClass (top 11) 1
abbrev s_Hand_unmark : Stmt := inClass (top 11) 2
abbrev s_Hand_go_on : Stmt := inClass (top 11) 3
abbrev s_Hand_chosen : Stmt := inClass (top 11) 4
abbrev s_Hand_marks : Stmt := inClass (top 11) 5
abbrev s_check_rights : Stmt := top 13
abbrev s_Leaf___init__ : Stmt := inClass (top 14) 0
abbrev s_Held___init__ : Stmt := inClass (top 16) 0
abbrev s_Out___init__ : Stmt := inClass (top 17) 0
abbrev s_Named___init__ : Stmt := inClass (top 18) 0
abbrev s_Pool___init__ : Stmt := inClass (top 28) 0
abbrev s_Pool_room : Stmt := inClass (top 28) 14
abbrev s_Pool_put_out : Stmt := inClass (top 28) 3
abbrev s_Pool_brought_in : Stmt := inClass (top 28) 4
abbrev s_Pool_made : Stmt := inClass (top 28) 1
abbrev s_Pool_fetched : Stmt := inClass (top 28) 2
abbrev s_Pool_word : Stmt := inClass (top 28) 5
abbrev s_Pool_put : Stmt := inClass (top 28) 6
abbrev s_Pool_more : Stmt := inClass (top 28) 7
abbrev s_Pool_less : Stmt := inClass (top 28) 8
abbrev s_Pool_words : Stmt := inClass (top 28) 9
abbrev s_Pool_count : Stmt := inClass (top 28) 10
abbrev s_Pool_frames : Stmt := inClass (top 28) 11
abbrev s_Pool_slots : Stmt := inClass (top 28) 12
abbrev s_Pool_marks : Stmt := inClass (top 28) 13
abbrev s__law_cell_at : Stmt := top 30
abbrev s__law_kinds : Stmt := top 31
abbrev s__law_called : Stmt := top 32
abbrev s__law_found : Stmt := top 33
abbrev s__law_none : Stmt := top 34
abbrev s__law_bad_words : Stmt := top 35
abbrev s__law_sizes : Stmt := top 36
abbrev s__law_arguments : Stmt := top 37
abbrev s__law_told : Stmt := top 38
abbrev s__law_others : Stmt := top 39
abbrev s__law_mixed : Stmt := top 40
abbrev s_law : Stmt := top 41
abbrev n_Counts___init__ : List Str := ["self", "many"]
theorem sc_Counts___init__ : FnScope n_Counts___init__ ["self", "many"] (defScope s_Counts___init__) := ⟨rfl, rfl, rfl, by decide +kernel, rfl, by decide +kernel, by decide +kernel⟩
abbrev n_Counts_of : List Str := ["self", "number"]
theorem sc_Counts_of : FnScope n_Counts_of ["self", "number"] (defScope s_Counts_of) := ⟨rfl, rfl, rfl, by decide +kernel, rfl, by decide +kernel, by decide +kernel⟩
abbrev n_Counts_check_taken : List Str := ["self", "number"]
theorem sc_Counts_check_taken : FnScope n_Counts_check_taken ["self", "number"] (defScope s_Counts_check_taken) := ⟨rfl, rfl, rfl, by decide +kernel, rfl, by decide +kernel, by decide +kernel⟩
abbrev n_Counts_more : List Str := ["self", "number"]
theorem sc_Counts_more : FnScope n_Counts_more ["self", "number"] (defScope s_Counts_more) := ⟨rfl, rfl, rfl, by decide +kernel, rfl, by decide +kernel, by decide +kernel⟩
abbrev n_Counts_less : List Str := ["self", "number"]
theorem sc_Counts_less : FnScope n_Counts_less ["self", "number"] (defScope s_Counts_less) := ⟨rfl, rfl, rfl, by decide +kernel, rfl, by decide +kernel, by decide +kernel⟩
abbrev n_Counts_freed : List Str := ["self", "number", "count"]
theorem sc_Counts_freed : FnScope n_Counts_freed ["self", "number"] (defScope s_Counts_freed) := ⟨rfl, rfl, rfl, by decide +kernel, rfl, by decide +kernel, by decide +kernel⟩
abbrev n_Counts_free : List Str := ["self"]
theorem sc_Counts_free : FnScope n_Counts_free ["self"] (defScope s_Counts_free) := ⟨rfl, rfl, rfl, by decide +kernel, rfl, by decide +kernel, by decide +kernel⟩
abbrev n_Counts_told : List Str := ["self"]
theorem sc_Counts_told : FnScope n_Counts_told ["self"] (defScope s_Counts_told) := ⟨rfl, rfl, rfl, by decide +kernel, rfl, by decide +kernel, by decide +kernel⟩
abbrev n_Counts_taken : List Str := ["self", "count", "number"]
theorem sc_Counts_taken : FnScope n_Counts_taken ["self", "count"] (defScope s_Counts_taken) := ⟨rfl, rfl, rfl, by decide +kernel, rfl, by decide +kernel, by decide +kernel⟩
abbrev n_is_word : List Str := ["thing"]
theorem sc_is_word : FnScope n_is_word ["thing"] (defScope s_is_word) := ⟨rfl, rfl, rfl, by decide +kernel, rfl, by decide +kernel, by decide +kernel⟩
abbrev n_check_word : List Str := ["thing"]
theorem sc_check_word : FnScope n_check_word ["thing"] (defScope s_check_word) := ⟨rfl, rfl, rfl, by decide +kernel, rfl, by decide +kernel, by decide +kernel⟩
abbrev n_Store___init__ : List Str := ["self", "many", "size"]
theorem sc_Store___init__ : FnScope n_Store___init__ ["self", "many", "size"] (defScope s_Store___init__) := ⟨rfl, rfl, rfl, by decide +kernel, rfl, by decide +kernel, by decide +kernel⟩
abbrev n_Store_check_words : List Str := ["self", "words", "word"]
theorem sc_Store_check_words : FnScope n_Store_check_words ["self", "words"] (defScope s_Store_check_words) := ⟨rfl, rfl, rfl, by decide +kernel, rfl, by decide +kernel, by decide +kernel⟩
abbrev n_Store_check_place : List Str := ["self", "number", "place"]
theorem sc_Store_check_place : FnScope n_Store_check_place ["self", "number", "place"] (defScope s_Store_check_place) := ⟨rfl, rfl, rfl, by decide +kernel, rfl, by decide +kernel, by decide +kernel⟩
abbrev n_Store_made : List Str := ["self", "words", "count", "number"]
theorem sc_Store_made : FnScope n_Store_made ["self", "words", "count"] (defScope s_Store_made) := ⟨rfl, rfl, rfl, by decide +kernel, rfl, by decide +kernel, by decide +kernel⟩
abbrev n_Store_words : List Str := ["self", "number"]
theorem sc_Store_words : FnScope n_Store_words ["self", "number"] (defScope s_Store_words) := ⟨rfl, rfl, rfl, by decide +kernel, rfl, by decide +kernel, by decide +kernel⟩
abbrev n_Store_word : List Str := ["self", "number", "place"]
theorem sc_Store_word : FnScope n_Store_word ["self", "number", "place"] (defScope s_Store_word) := ⟨rfl, rfl, rfl, by decide +kernel, rfl, by decide +kernel, by decide +kernel⟩
abbrev n_Store_put : List Str := ["self", "number", "place", "word"]
theorem sc_Store_put : FnScope n_Store_put ["self", "number", "place", "word"] (defScope s_Store_put) := ⟨rfl, rfl, rfl, by decide +kernel, rfl, by decide +kernel, by decide +kernel⟩
abbrev n_Store_count : List Str := ["self", "number"]
theorem sc_Store_count : FnScope n_Store_count ["self", "number"] (defScope s_Store_count) := ⟨rfl, rfl, rfl, by decide +kernel, rfl, by decide +kernel, by decide +kernel⟩
abbrev n_Store_more : List Str := ["self", "number"]
theorem sc_Store_more : FnScope n_Store_more ["self", "number"] (defScope s_Store_more) := ⟨rfl, rfl, rfl, by decide +kernel, rfl, by decide +kernel, by decide +kernel⟩
abbrev n_Store_less : List Str := ["self", "number", "count"]
theorem sc_Store_less : FnScope n_Store_less ["self", "number"] (defScope s_Store_less) := ⟨rfl, rfl, rfl, by decide +kernel, rfl, by decide +kernel, by decide +kernel⟩
abbrev n_Store_gone : List Str := ["self", "number", "count"]
theorem sc_Store_gone : FnScope n_Store_gone ["self", "number"] (defScope s_Store_gone) := ⟨rfl, rfl, rfl, by decide +kernel, rfl, by decide +kernel, by decide +kernel⟩
abbrev n_Store_counts : List Str := ["self"]
theorem sc_Store_counts : FnScope n_Store_counts ["self"] (defScope s_Store_counts) := ⟨rfl, rfl, rfl, by decide +kernel, rfl, by decide +kernel, by decide +kernel⟩
abbrev n_Store_free : List Str := ["self"]
theorem sc_Store_free : FnScope n_Store_free ["self"] (defScope s_Store_free) := ⟨rfl, rfl, rfl, by decide +kernel, rfl, by decide +kernel, by decide +kernel⟩
abbrev n_Hand___init__ : List Str := ["self", "many"]
theorem sc_Hand___init__ : FnScope n_Hand___init__ ["self", "many"] (defScope s_Hand___init__) := ⟨rfl, rfl, rfl, by decide +kernel, rfl, by decide +kernel, by decide +kernel⟩
abbrev n_Hand_mark : List Str := ["self", "frame"]
theorem sc_Hand_mark : FnScope n_Hand_mark ["self", "frame"] (defScope s_Hand_mark) := ⟨rfl, rfl, rfl, by decide +kernel, rfl, by decide +kernel, by decide +kernel⟩
abbrev n_Hand_unmark : List Str := ["self", "frame"]
theorem sc_Hand_unmark : FnScope n_Hand_unmark ["self", "frame"] (defScope s_Hand_unmark) := ⟨rfl, rfl, rfl, by decide +kernel, rfl, by decide +kernel, by decide +kernel⟩
abbrev n_Hand_go_on : List Str := ["self"]
theorem sc_Hand_go_on : FnScope n_Hand_go_on ["self"] (defScope s_Hand_go_on) := ⟨rfl, rfl, rfl, by decide +kernel, rfl, by decide +kernel, by decide +kernel⟩
abbrev n_Hand_chosen : List Str := ["self", "frame"]
theorem sc_Hand_chosen : FnScope n_Hand_chosen ["self"] (defScope s_Hand_chosen) := ⟨rfl, rfl, rfl, by decide +kernel, rfl, by decide +kernel, by decide +kernel⟩
abbrev n_Hand_marks : List Str := ["self"]
theorem sc_Hand_marks : FnScope n_Hand_marks ["self"] (defScope s_Hand_marks) := ⟨rfl, rfl, rfl, by decide +kernel, rfl, by decide +kernel, by decide +kernel⟩
abbrev n_check_rights : List Str := ["rights"]
theorem sc_check_rights : FnScope n_check_rights ["rights"] (defScope s_check_rights) := ⟨rfl, rfl, rfl, by decide +kernel, rfl, by decide +kernel, by decide +kernel⟩
abbrev n_Leaf___init__ : List Str := ["self", "rights"]
theorem sc_Leaf___init__ : FnScope n_Leaf___init__ ["self", "rights"] (defScope s_Leaf___init__) := ⟨rfl, rfl, rfl, by decide +kernel, rfl, by decide +kernel, by decide +kernel⟩
abbrev n_Held___init__ : List Str := ["self", "rights", "frame"]
theorem sc_Held___init__ : FnScope n_Held___init__ ["self", "rights", "frame"] (defScope s_Held___init__) := ⟨rfl, rfl, rfl, by decide +kernel, rfl, by decide +kernel, by decide +kernel⟩
abbrev n_Out___init__ : List Str := ["self", "rights", "slot"]
theorem sc_Out___init__ : FnScope n_Out___init__ ["self", "rights", "slot"] (defScope s_Out___init__) := ⟨rfl, rfl, rfl, by decide +kernel, rfl, by decide +kernel, by decide +kernel⟩
abbrev n_Named___init__ : List Str := ["self", "rights", "name", "part"]
theorem sc_Named___init__ : FnScope n_Named___init__ ["self", "rights", "name", "part"] (defScope s_Named___init__) := ⟨rfl, rfl, rfl, by decide +kernel, rfl, by decide +kernel, by decide +kernel⟩
abbrev n_Pool___init__ : List Str := ["self", "frames", "slots", "size"]
theorem sc_Pool___init__ : FnScope n_Pool___init__ ["self", "frames", "slots", "size"] (defScope s_Pool___init__) := ⟨rfl, rfl, rfl, by decide +kernel, rfl, by decide +kernel, by decide +kernel⟩
abbrev n_Pool_room : List Str := ["self"]
theorem sc_Pool_room : FnScope n_Pool_room ["self"] (defScope s_Pool_room) := ⟨rfl, rfl, rfl, by decide +kernel, rfl, by decide +kernel, by decide +kernel⟩
abbrev n_Pool_put_out : List Str := ["self", "frame", "content"]
theorem sc_Pool_put_out : FnScope n_Pool_put_out ["self"] (defScope s_Pool_put_out) := ⟨rfl, rfl, rfl, by decide +kernel, rfl, by decide +kernel, by decide +kernel⟩
abbrev n_Pool_brought_in : List Str := ["self", "words", "count", "frame"]
theorem sc_Pool_brought_in : FnScope n_Pool_brought_in ["self", "words", "count"] (defScope s_Pool_brought_in) := ⟨rfl, rfl, rfl, by decide +kernel, rfl, by decide +kernel, by decide +kernel⟩
abbrev n_Pool_made : List Str := ["self", "words", "moves"]
theorem sc_Pool_made : FnScope n_Pool_made ["self", "words"] (defScope s_Pool_made) := ⟨rfl, rfl, rfl, by decide +kernel, rfl, by decide +kernel, by decide +kernel⟩
abbrev n_Pool_fetched : List Str := ["self", "slot", "content", "moves", "frame"]
theorem sc_Pool_fetched : FnScope n_Pool_fetched ["self", "slot"] (defScope s_Pool_fetched) := ⟨rfl, rfl, rfl, by decide +kernel, rfl, by decide +kernel, by decide +kernel⟩
abbrev n_Pool_word : List Str := ["self", "frame", "place", "word"]
theorem sc_Pool_word : FnScope n_Pool_word ["self", "frame", "place"] (defScope s_Pool_word) := ⟨rfl, rfl, rfl, by decide +kernel, rfl, by decide +kernel, by decide +kernel⟩
abbrev n_Pool_put : List Str := ["self", "frame", "place", "word"]
theorem sc_Pool_put : FnScope n_Pool_put ["self", "frame", "place", "word"] (defScope s_Pool_put) := ⟨rfl, rfl, rfl, by decide +kernel, rfl, by decide +kernel, by decide +kernel⟩
abbrev n_Pool_more : List Str := ["self", "leaf"]
theorem sc_Pool_more : FnScope n_Pool_more ["self", "leaf"] (defScope s_Pool_more) := ⟨rfl, rfl, rfl, by decide +kernel, rfl, by decide +kernel, by decide +kernel⟩
abbrev n_Pool_less : List Str := ["self", "leaf"]
theorem sc_Pool_less : FnScope n_Pool_less ["self", "leaf"] (defScope s_Pool_less) := ⟨rfl, rfl, rfl, by decide +kernel, rfl, by decide +kernel, by decide +kernel⟩
abbrev n_Pool_words : List Str := ["self", "leaf"]
theorem sc_Pool_words : FnScope n_Pool_words ["self", "leaf"] (defScope s_Pool_words) := ⟨rfl, rfl, rfl, by decide +kernel, rfl, by decide +kernel, by decide +kernel⟩
abbrev n_Pool_count : List Str := ["self", "leaf"]
theorem sc_Pool_count : FnScope n_Pool_count ["self", "leaf"] (defScope s_Pool_count) := ⟨rfl, rfl, rfl, by decide +kernel, rfl, by decide +kernel, by decide +kernel⟩
abbrev n_Pool_frames : List Str := ["self"]
theorem sc_Pool_frames : FnScope n_Pool_frames ["self"] (defScope s_Pool_frames) := ⟨rfl, rfl, rfl, by decide +kernel, rfl, by decide +kernel, by decide +kernel⟩
abbrev n_Pool_slots : List Str := ["self"]
theorem sc_Pool_slots : FnScope n_Pool_slots ["self"] (defScope s_Pool_slots) := ⟨rfl, rfl, rfl, by decide +kernel, rfl, by decide +kernel, by decide +kernel⟩
abbrev n_Pool_marks : List Str := ["self"]
theorem sc_Pool_marks : FnScope n_Pool_marks ["self"] (defScope s_Pool_marks) := ⟨rfl, rfl, rfl, by decide +kernel, rfl, by decide +kernel, by decide +kernel⟩
abbrev n__law_cell_at : List Str := ["_law_script", "_law_k"]
theorem sc__law_cell_at : FnScope n__law_cell_at ["_law_script", "_law_k"] (defScope s__law_cell_at) := ⟨rfl, rfl, rfl, by decide +kernel, rfl, by decide +kernel, by decide +kernel⟩
abbrev n__law_kinds : List Str := ["_law_e", "_law_some", "_law_words"]
theorem sc__law_kinds : FnScope n__law_kinds ["_law_e"] (defScope s__law_kinds) := ⟨rfl, rfl, rfl, by decide +kernel, rfl, by decide +kernel, by decide +kernel⟩
abbrev n__law_called : List Str := ["_law_pool", "_law_way", "_law_a"]
theorem sc__law_called : FnScope n__law_called ["_law_pool", "_law_way", "_law_a"] (defScope s__law_called) := ⟨rfl, rfl, rfl, by decide +kernel, rfl, by decide +kernel, by decide +kernel⟩
abbrev n__law_found : List Str := ["_law_pool", "_law_way", "_law_a", "_law_caught", "_law_e"]
theorem sc__law_found : FnScope n__law_found ["_law_pool", "_law_way", "_law_a"] (defScope s__law_found) := ⟨rfl, rfl, rfl, by decide +kernel, rfl, by decide +kernel, by decide +kernel⟩
abbrev n__law_none : List Str := ["_law_counts", "_law_cell", "_law_far"]
theorem sc__law_none : FnScope n__law_none ["_law_counts", "_law_cell"] (defScope s__law_none) := ⟨rfl, rfl, rfl, by decide +kernel, rfl, by decide +kernel, by decide +kernel⟩
abbrev n__law_bad_words : List Str := ["_law_size", "_law_cell", "_law_row"]
theorem sc__law_bad_words : FnScope n__law_bad_words ["_law_size", "_law_cell"] (defScope s__law_bad_words) := ⟨rfl, rfl, rfl, by decide +kernel, rfl, by decide +kernel, by decide +kernel⟩
abbrev n__law_sizes : List Str := ["_law_cell", "_law_sizes_here", "_law_far", "_law_at"]
theorem sc__law_sizes : FnScope n__law_sizes ["_law_cell"] (defScope s__law_sizes) := ⟨rfl, rfl, rfl, by decide +kernel, rfl, by decide +kernel, by decide +kernel⟩
abbrev n__law_arguments : List Str := ["_law_pool", "_law_way", "_law_size", "_law_cell", "_law_frames", "_law_slots", "_law_far", "_law_used", "_law_a", "_law_due"]
theorem sc__law_arguments : FnScope n__law_arguments ["_law_pool", "_law_way", "_law_size", "_law_cell"] (defScope s__law_arguments) := ⟨rfl, rfl, rfl, by decide +kernel, rfl, by decide +kernel, by decide +kernel⟩
abbrev n__law_told : List Str := ["_law_pool", "_law_told_here", "_law_k"]
theorem sc__law_told : FnScope n__law_told ["_law_pool"] (defScope s__law_told) := ⟨rfl, rfl, rfl, by decide +kernel, rfl, by decide +kernel, by decide +kernel⟩
abbrev n__law_others : List Str := ["_law_pool", "_law_size", "_law_cell", "_law_told_here", "_law_leaf", "_law_fresh"]
theorem sc__law_others : FnScope n__law_others ["_law_pool", "_law_size", "_law_cell"] (defScope s__law_others) := ⟨rfl, rfl, rfl, by decide +kernel, rfl, by decide +kernel, by decide +kernel⟩
abbrev n__law_mixed : List Str := ["_law_raw"]
theorem sc__law_mixed : FnScope n__law_mixed ["_law_raw"] (defScope s__law_mixed) := ⟨rfl, rfl, rfl, by decide +kernel, rfl, by decide +kernel, by decide +kernel⟩
abbrev n_law : List Str := ["_law_script", "_law_many", "_law_slots", "_law_size", "_law_pool", "_law_k", "_law_frame", "_law_moves", "_law_raw", "_law_cell", "_law_told_here", "_law_a", "_law_due"]
theorem sc_law : FnScope n_law ["_law_script"] (defScope s_law) := ⟨rfl, rfl, rfl, by decide +kernel, rfl, by decide +kernel, by decide +kernel⟩
structure Adr where
  (c_LeafError c_NoShape c_NoAddress c_NoNumber c_Full c_NoWord c_NoRights c_Hand c_Leaf c_Fresh c_Held c_Out c_Named c_Counts c_Store c_Pool : Addr)
structure Txt (K : PySem.W.Frag) (mg : Str → Option Value) (a : Adr) : Prop where
  cl_Hand : Cls K a.c_Hand
  cl_Leaf : Cls K a.c_Leaf
  cl_Fresh : Cls K a.c_Fresh
  cl_Held : Cls K a.c_Held
  cl_Out : Cls K a.c_Out
  cl_Named : Cls K a.c_Named
  cl_Counts : Cls K a.c_Counts
  cl_Store : Cls K a.c_Store
  cl_Pool : Cls K a.c_Pool
  n_Counts_kept : NoAttr K a.c_Counts "kept"
  n_Fresh_frame : NoAttr K a.c_Fresh "frame"
  n_Fresh_rights : NoAttr K a.c_Fresh "rights"
  n_Fresh_slot : NoAttr K a.c_Fresh "slot"
  n_Hand_marked : NoAttr K a.c_Hand "marked"
  n_Hand_standing : NoAttr K a.c_Hand "standing"
  n_Held_frame : NoAttr K a.c_Held "frame"
  n_Held_rights : NoAttr K a.c_Held "rights"
  n_Held_slot : NoAttr K a.c_Held "slot"
  n_Leaf_rights : NoAttr K a.c_Leaf "rights"
  n_Named_frame : NoAttr K a.c_Named "frame"
  n_Named_name : NoAttr K a.c_Named "name"
  n_Named_part : NoAttr K a.c_Named "part"
  n_Named_rights : NoAttr K a.c_Named "rights"
  n_Named_slot : NoAttr K a.c_Named "slot"
  n_Out_frame : NoAttr K a.c_Out "frame"
  n_Out_rights : NoAttr K a.c_Out "rights"
  n_Out_slot : NoAttr K a.c_Out "slot"
  n_Pool_frame_store : NoAttr K a.c_Pool "frame_store"
  n_Pool_hand : NoAttr K a.c_Pool "hand"
  n_Pool_length : NoAttr K a.c_Pool "length"
  n_Pool_slot_store : NoAttr K a.c_Pool "slot_store"
  n_Store_contents : NoAttr K a.c_Store "contents"
  n_Store_length : NoAttr K a.c_Store "length"
  n_Store_tally : NoAttr K a.c_Store "tally"
  x_LeafError : XCls K a.c_LeafError
  m_LeafError : mg "LeafError" = some (.ref a.c_LeafError)
  x_NoShape : XCls K a.c_NoShape
  m_NoShape : mg "NoShape" = some (.ref a.c_NoShape)
  x_NoAddress : XCls K a.c_NoAddress
  m_NoAddress : mg "NoAddress" = some (.ref a.c_NoAddress)
  x_NoNumber : XCls K a.c_NoNumber
  m_NoNumber : mg "NoNumber" = some (.ref a.c_NoNumber)
  x_Full : XCls K a.c_Full
  m_Full : mg "Full" = some (.ref a.c_Full)
  x_NoWord : XCls K a.c_NoWord
  m_NoWord : mg "NoWord" = some (.ref a.c_NoWord)
  x_NoRights : XCls K a.c_NoRights
  m_NoRights : mg "NoRights" = some (.ref a.c_NoRights)
  m_Hand : mg "Hand" = some (.ref a.c_Hand)
  m_Leaf : mg "Leaf" = some (.ref a.c_Leaf)
  m_Fresh : mg "Fresh" = some (.ref a.c_Fresh)
  m_Held : mg "Held" = some (.ref a.c_Held)
  m_Out : mg "Out" = some (.ref a.c_Out)
  m_Named : mg "Named" = some (.ref a.c_Named)
  m_Counts : mg "Counts" = some (.ref a.c_Counts)
  m_Store : mg "Store" = some (.ref a.c_Store)
  m_Pool : mg "Pool" = some (.ref a.c_Pool)
  g_MOST_FRAMES : ∃ t, mg "MOST_FRAMES" = some (.int 64 t)
  g_MOST_NUMBERS : ∃ t, mg "MOST_NUMBERS" = some (.int 64 t)
  g_MOST_WORDS : ∃ t, mg "MOST_WORDS" = some (.int 64 t)
  b_ValueError : mg "ValueError" = none
  b_bool : mg "bool" = none
  b_int : mg "int" = none
  b_isinstance : mg "isinstance" = none
  b_len : mg "len" = none
  b_list : mg "list" = none
  b_range : mg "range" = none
  b_zip : mg "zip" = none
  i_NoNumber : XIs K a.c_NoNumber
  i_NoWord : XIs K a.c_NoWord
  i_Full : XIs K a.c_Full
  i_NoShape : XIs K a.c_NoShape
  i_NoAddress : XIs K a.c_NoAddress
  isk : IsK K
  ti_Fresh : ∀ {H : Hp} {x dx : Addr} {fs : List (Str × V)}, H x = some (.ins a.c_Fresh dx fs) → TyE K H (.ref x) (.ref a.c_Fresh)
  k_Fresh_Held : PySem.W.kitOne K (.ref a.c_Fresh) (.ref a.c_Held) = some false
  k_Fresh_Out : PySem.W.kitOne K (.ref a.c_Fresh) (.ref a.c_Out) = some false
  ti_Held : ∀ {H : Hp} {x dx : Addr} {fs : List (Str × V)}, H x = some (.ins a.c_Held dx fs) → TyE K H (.ref x) (.ref a.c_Held)
  k_Held_Held : PySem.W.kitOne K (.ref a.c_Held) (.ref a.c_Held) = some true
  k_Held_Out : PySem.W.kitOne K (.ref a.c_Held) (.ref a.c_Out) = some false
  ti_Out : ∀ {H : Hp} {x dx : Addr} {fs : List (Str × V)}, H x = some (.ins a.c_Out dx fs) → TyE K H (.ref x) (.ref a.c_Out)
  k_Out_Held : PySem.W.kitOne K (.ref a.c_Out) (.ref a.c_Held) = some false
  k_Out_Out : PySem.W.kitOne K (.ref a.c_Out) (.ref a.c_Out) = some true
  ti_Named : ∀ {H : Hp} {x dx : Addr} {fs : List (Str × V)}, H x = some (.ins a.c_Named dx fs) → TyE K H (.ref x) (.ref a.c_Named)
  k_Named_Held : PySem.W.kitOne K (.ref a.c_Named) (.ref a.c_Held) = some false
  k_Named_Out : PySem.W.kitOne K (.ref a.c_Named) (.ref a.c_Out) = some false
  e_NoWord_NoWord : PySem.W.kitOne K (.ref a.c_NoWord) (.ref a.c_NoWord) = some true
  e_NoWord_NoNumber : PySem.W.kitOne K (.ref a.c_NoWord) (.ref a.c_NoNumber) = some false
  e_NoWord_NoAddress : PySem.W.kitOne K (.ref a.c_NoWord) (.ref a.c_NoAddress) = some false
  e_NoWord_NoShape : PySem.W.kitOne K (.ref a.c_NoWord) (.ref a.c_NoShape) = some false
  e_NoWord_Full : PySem.W.kitOne K (.ref a.c_NoWord) (.ref a.c_Full) = some false
  e_NoNumber_NoWord : PySem.W.kitOne K (.ref a.c_NoNumber) (.ref a.c_NoWord) = some false
  e_NoNumber_NoNumber : PySem.W.kitOne K (.ref a.c_NoNumber) (.ref a.c_NoNumber) = some true
  e_NoNumber_NoAddress : PySem.W.kitOne K (.ref a.c_NoNumber) (.ref a.c_NoAddress) = some false
  e_NoNumber_NoShape : PySem.W.kitOne K (.ref a.c_NoNumber) (.ref a.c_NoShape) = some false
  e_NoNumber_Full : PySem.W.kitOne K (.ref a.c_NoNumber) (.ref a.c_Full) = some false
  e_NoAddress_NoWord : PySem.W.kitOne K (.ref a.c_NoAddress) (.ref a.c_NoWord) = some false
  e_NoAddress_NoNumber : PySem.W.kitOne K (.ref a.c_NoAddress) (.ref a.c_NoNumber) = some false
  e_NoAddress_NoAddress : PySem.W.kitOne K (.ref a.c_NoAddress) (.ref a.c_NoAddress) = some true
  e_NoAddress_NoShape : PySem.W.kitOne K (.ref a.c_NoAddress) (.ref a.c_NoShape) = some false
  e_NoAddress_Full : PySem.W.kitOne K (.ref a.c_NoAddress) (.ref a.c_Full) = some false
  e_NoShape_NoWord : PySem.W.kitOne K (.ref a.c_NoShape) (.ref a.c_NoWord) = some false
  e_NoShape_NoNumber : PySem.W.kitOne K (.ref a.c_NoShape) (.ref a.c_NoNumber) = some false
  e_NoShape_NoAddress : PySem.W.kitOne K (.ref a.c_NoShape) (.ref a.c_NoAddress) = some false
  e_NoShape_NoShape : PySem.W.kitOne K (.ref a.c_NoShape) (.ref a.c_NoShape) = some true
  e_NoShape_Full : PySem.W.kitOne K (.ref a.c_NoShape) (.ref a.c_Full) = some false
  v_NoWord : PySem.W.kitOne K (.ref a.c_NoWord) (.type "ValueError") = some true
  v_NoNumber : PySem.W.kitOne K (.ref a.c_NoNumber) (.type "ValueError") = some true
  v_NoAddress : PySem.W.kitOne K (.ref a.c_NoAddress) (.type "ValueError") = some true
  v_NoShape : PySem.W.kitOne K (.ref a.c_NoShape) (.type "ValueError") = some true
  s_NoWord : PySem.W.mroIn K a.c_NoWord (.ref a.c_LeafError) = some true
  s_NoNumber : PySem.W.mroIn K a.c_NoNumber (.ref a.c_LeafError) = some true
  s_NoAddress : PySem.W.mroIn K a.c_NoAddress (.ref a.c_LeafError) = some true
  s_NoShape : PySem.W.mroIn K a.c_NoShape (.ref a.c_LeafError) = some true
def fldK (l : Addr) : List (Str × V) := putF "kept" (.ref l) []
theorem fldK_kept (l : Addr) : (fldK l).lookup ("kept" : Str) = some (.ref l) := by
  unfold fldK
  rw [lookup_putF, if_pos rfl]
theorem fldK_no (l : Addr) {m : Str} (h : ¬ m = "kept") : (fldK l).lookup m = none := by
  unfold fldK
  rw [lookup_putF, if_neg h]
  rfl
structure CntAt (C : Addr) (H : Hp) (p l : Addr) (ns : List Int) : Prop where
  ob : ∃ dx, H p = some (.ins C dx (fldK l))
  ls : H l = some (.lst (ns.map V.int))
theorem CntAt.ne {C : Addr} {H : Hp} {p l : Addr} {ns : List Int} (h : CntAt C H p l ns) : p ≠ l := by
  obtain ⟨⟨dx, h1⟩, h2⟩ := h
  exact ne_of h1 h2 (by intro z; cases z)
def spOf (a : Adr) : Sp := fun vs H Q E => ∃ p l ns n, vs = [.ref p, .int n] ∧ CntAt a.c_Counts H p l ns ∧ ns.length ≤ 64 ∧
  (0 ≤ n ∧ n < ns.length → Q (.int (ns.getD n.toNat 0)) H) ∧ (¬ (0 ≤ n ∧ n < ns.length) → E (.ref a.c_NoNumber) none H)
def spCheck (a : Adr) : Sp := fun vs H Q E => ∃ p l ns n, vs = [.ref p, .int n] ∧ CntAt a.c_Counts H p l ns ∧ ns.length ≤ 64 ∧
  ((0 ≤ n ∧ n < ns.length) ∧ ns.getD n.toNat 0 ≠ 0 → Q .non H) ∧ (¬ ((0 ≤ n ∧ n < ns.length) ∧ ns.getD n.toNat 0 ≠ 0) → E (.ref a.c_NoNumber) none H)
def spTurn (a : Adr) (d : Int) : Sp := fun vs H Q E => ∃ p l ns n, vs = [.ref p, .int n] ∧ CntAt a.c_Counts H p l ns ∧ ns.length ≤ 64 ∧
  ((0 ≤ n ∧ n < ns.length) ∧ ns.getD n.toNat 0 ≠ 0 → Q (.int (ns.getD n.toNat 0 + d)) (upd H l (.lst ((ns.set n.toNat (ns.getD n.toNat 0 + d)).map V.int)))) ∧ (¬ ((0 ≤ n ∧ n < ns.length) ∧ ns.getD n.toNat 0 ≠ 0) → E (.ref a.c_NoNumber) none H)
def spFree (a : Adr) : Sp := fun vs H Q _ => ∃ p l ns, vs = [.ref p] ∧ CntAt a.c_Counts H p l ns ∧ Q (.int (ns.count 0 : Nat)) H
def spTold (a : Adr) : Sp := fun vs H Q _ => ∃ p l ns, vs = [.ref p] ∧ CntAt a.c_Counts H p l ns ∧ ∀ q, H q = none → Q (.ref q) (upd H q (.lst (ns.map V.int)))
def spTaken (a : Adr) : Sp := fun vs H Q E => ∃ p l ns c, vs = [.ref p, .int c] ∧ CntAt a.c_Counts H p l ns ∧ ns.length ≤ 64 ∧
  (0 ∈ ns → Q (.int (ns.idxOf 0 : Nat)) (upd H l (.lst ((ns.set (ns.idxOf 0) c).map V.int)))) ∧ (0 ∉ ns → E (.ref a.c_Full) none H)
def spInit (a : Adr) : Sp := fun vs H Q E => ∃ p dx n, vs = [.ref p, .int n] ∧ H p = some (.ins a.c_Counts dx []) ∧
  (0 ≤ n ∧ n ≤ 64 → ∀ l H', H l = none → CntAt a.c_Counts H' p l (List.replicate n.toNat 0) → (∀ b o, H b = some o → b ≠ p → H' b = some o) → Q .non H') ∧ (¬ (0 ≤ n ∧ n ≤ 64) → E (.ref a.c_NoShape) none H)
theorem turn_read {H : Hp} {p l dx : Addr} {ns : List Int} {n : Int} (C : Addr) (h1 : H p = some (.ins C dx (fldK l))) (v : Int) (h2 : H l = some (.lst (ns.map V.int))) : (upd H l (.lst ((ns.map V.int).set n.toNat (.int v)))) p = some (.ins C dx (fldK l)) := by
  rw [upd_ne (ne_of h1 h2 (by intro z; cases z))]
  exact h1
theorem count_zero {ns : List Int} : ((ns.count 0 : Nat) : Int) = 0 ↔ 0 ∉ ns := by
  rw [← List.count_eq_zero]
  omega
section
variable {P : Program} {w : World} {K : PySem.W.Frag} {mg : Str → Option Value} {base : Heap} {a : Adr}
theorem ok_Counts_of {dvs : List V} (R : RawM K a.c_Counts "of" "Counts.of" s_Counts_of ["self", "number"] dvs) (T : Txt K mg a) :
    HasMe P w K mg base a.c_Counts 1 "of" ["self", "number"] (spOf a) dvs := by
  refine R.ok sc_Counts_of (fun vs H Q E h => ?_) (fun f cdv A outer s H vs Q E hr h => ?_)
  · obtain ⟨p, l, ns, n, rfl, _⟩ := h
    rfl
  obtain ⟨p, l, ns, n, rfl, S, hl, k1, k2⟩ := h
  refine ⟨_, (@pss_cons _ _ _ _ _ (ps_if (pt_not (pt_chain op_le op_lt pe_int (pv 1) (pe_callB call_len_seq (by rfl) T.b_len PySem.boot_len (@pa_cn _ _ _ _ _ (pe_fld (pv 0) rfl) pa_nil rfl)))) (@pss_one _ _ _ (ps_raise T.x_NoNumber rfl (by rfl) T.m_NoNumber pass_def (@pa_cn _ _ _ _ _ pe_str pa_nil rfl))) pss_nil)
      (@pss_one _ _ _ (@ps_ret _ _ _ _ (@pe_ix _ _ _ _ _ _ _ ix_list (pe_fld (pv 0) rfl) (pv 1) (fun _ _ => rfl))))), ?_⟩
  obtain ⟨⟨dx, h1⟩, h2⟩ := id S
  refine ⟨_, rfl, _, _, rfl, rfl, _, rfl, iteD (fun c0 => ?_) (fun c0 => ?_)⟩
  · refine ⟨_, rfl, p, a.c_Counts, dx, _, _, rfl, h1, T.cl_Counts, T.n_Counts_kept, fldK_kept l, l, _, rfl, .inl (SqL.of h2), _, _, rfl, rfl, _, rfl, iteN (fun c1 => ?_) (fun c1 => ?_)⟩
    · rw [List.length_map] at c1
      exact ⟨one_line, k2 fun z => c1 z.2⟩
    · rw [List.length_map] at c1
      exact ⟨_, rfl, p, a.c_Counts, dx, _, _, rfl, h1, T.cl_Counts, T.n_Counts_kept, fldK_kept l, _, rfl, l, _, _, _, rfl, rfl, SqL.of h2, atI_getD c0 c1, k1 ⟨c0, c1⟩⟩
  · exact ⟨_, rfl, iteT ⟨one_line, k2 fun z => c0 z.1⟩⟩
theorem ok_Counts_check_taken {dvs : List V} (R : RawM K a.c_Counts "check_taken" "Counts.check_taken" s_Counts_check_taken ["self", "number"] dvs) (T : Txt K mg a)
    (h_Counts_of : HasMe P w K mg base a.c_Counts 1 "of" ["self", "number"] (spOf a) []) :
    HasMe P w K mg base a.c_Counts 2 "check_taken" ["self", "number"] (spCheck a) dvs := by
  refine R.ok sc_Counts_check_taken (fun vs H Q E h => ?_) (fun f cdv A outer s H vs Q E hr h => ?_)
  · obtain ⟨p, l, ns, n, rfl, _⟩ := h
    rfl
  obtain ⟨p, l, ns, n, rfl, S, hl, k1, k2⟩ := h
  refine ⟨_, (@pss_one _ _ _ (ps_if (pt_cmpR op_eq (pe_me (pv 0) T.cl_Counts h_Counts_of (hr.mono (by decide)) pass_def (@pa_cn _ _ _ _ _ (pv 1) pa_nil rfl)) pe_int (nomark _)) (@pss_one _ _ _ (ps_raise T.x_NoNumber rfl (by rfl) T.m_NoNumber pass_def (@pa_cn _ _ _ _ _ pe_str pa_nil rfl))) pss_nil)), ?_⟩
  obtain ⟨⟨dx, h1⟩, h2⟩ := id S
  refine ⟨_, rfl, p, dx, _, rfl, h1, fldK_no l (by decide +kernel), _, rfl, p, l, ns, n, rfl, S, hl, fun c => ⟨rfl, _, rfl, iteI (fun z => ?_) fun z => ?_⟩, fun c => k2 fun z => c z.1⟩
  · exact ⟨one_line, k2 fun q => q.2 z⟩
  · exact k1 ⟨c, z⟩
theorem ok_Counts_more {dvs : List V} (R : RawM K a.c_Counts "more" "Counts.more" s_Counts_more ["self", "number"] dvs) (T : Txt K mg a)
    (h_Counts_check_taken : HasMe P w K mg base a.c_Counts 2 "check_taken" ["self", "number"] (spCheck a) []) :
    HasMe P w K mg base a.c_Counts 3 "more" ["self", "number"] (spTurn a 1) dvs := by
  refine R.ok sc_Counts_more (fun vs H Q E h => ?_) (fun f cdv A outer s H vs Q E hr h => ?_)
  · obtain ⟨p, l, ns, n, rfl, _⟩ := h
    rfl
  obtain ⟨p, l, ns, n, rfl, S, hl, k1, k2⟩ := h
  refine ⟨_, (@pss_cons _ _ _ _ _ (ps_expr (pe_me (pv 0) T.cl_Counts h_Counts_check_taken (hr.mono (by decide)) pass_def (@pa_cn _ _ _ _ _ (pv 1) pa_nil rfl)))
      (@pss_cons _ _ _ _ _ (ps_asg (pe_op op_add (@pe_ix _ _ _ _ _ _ _ ix_list (pe_fld (pv 0) rfl) (pv 1) (fun _ _ => rfl)) pe_int) (pg_sub (pe_fld (pv 0) rfl) (pv 1) set_list))
      (@pss_one _ _ _ (@ps_ret _ _ _ _ (@pe_ix _ _ _ _ _ _ _ ix_list (pe_fld (pv 0) rfl) (pv 1) (fun _ _ => rfl)))))), ?_⟩
  obtain ⟨⟨dx, h1⟩, h2⟩ := id S
  refine ⟨_, rfl, p, dx, _, rfl, h1, fldK_no l (by decide +kernel), _, rfl, p, l, ns, n, rfl, S, hl, fun c => ?_, fun c => k2 c⟩
  obtain ⟨⟨c0, c1⟩, c2⟩ := id c
  refine ⟨_, rfl, p, a.c_Counts, dx, _, _, rfl, h1, T.cl_Counts, T.n_Counts_kept, fldK_kept l, _, rfl, l, _, _, _, rfl, rfl, SqL.of h2, atI_getD c0 c1, _, _, rfl, rfl, ?_⟩
  refine ⟨_, rfl, p, a.c_Counts, dx, _, _, rfl, h1, T.cl_Counts, T.n_Counts_kept, fldK_kept l, _, rfl, l, _, n, _, rfl, rfl, h2, ixN_map c0 c1, ?_⟩
  have e := map_set ns n.toNat (ns.getD n.toNat 0 + 1)
  refine ⟨_, rfl, p, a.c_Counts, dx, _, _, rfl, turn_read a.c_Counts h1 _ h2, T.cl_Counts, T.n_Counts_kept, fldK_kept l, _, rfl, l, _, n, .int (ns.getD n.toNat 0 + 1), rfl, rfl, SqL.of upd_same, ?_, ?_⟩
  · show atI ((ns.map V.int).set n.toNat (V.int (ns.getD n.toNat 0 + 1))) n = _
    rw [e, atI_getD c0 (by rw [List.length_set]; exact c1), getD_set_self (by omega)]
  · show Q _ (upd H l (.lst ((ns.map V.int).set n.toNat (V.int (ns.getD n.toNat 0 + 1)))))
    rw [e]
    exact k1 c
theorem ok_Counts_less {dvs : List V} (R : RawM K a.c_Counts "less" "Counts.less" s_Counts_less ["self", "number"] dvs) (T : Txt K mg a)
    (h_Counts_check_taken : HasMe P w K mg base a.c_Counts 2 "check_taken" ["self", "number"] (spCheck a) []) :
    HasMe P w K mg base a.c_Counts 3 "less" ["self", "number"] (spTurn a (-1)) dvs := by
  refine R.ok sc_Counts_less (fun vs H Q E h => ?_) (fun f cdv A outer s H vs Q E hr h => ?_)
  · obtain ⟨p, l, ns, n, rfl, _⟩ := h
    rfl
  obtain ⟨p, l, ns, n, rfl, S, hl, k1, k2⟩ := h
  refine ⟨_, (@pss_cons _ _ _ _ _ (ps_expr (pe_me (pv 0) T.cl_Counts h_Counts_check_taken (hr.mono (by decide)) pass_def (@pa_cn _ _ _ _ _ (pv 1) pa_nil rfl)))
      (@pss_cons _ _ _ _ _ (ps_asg (pe_op op_sub (@pe_ix _ _ _ _ _ _ _ ix_list (pe_fld (pv 0) rfl) (pv 1) (fun _ _ => rfl)) pe_int) (pg_sub (pe_fld (pv 0) rfl) (pv 1) set_list))
      (@pss_one _ _ _ (@ps_ret _ _ _ _ (@pe_ix _ _ _ _ _ _ _ ix_list (pe_fld (pv 0) rfl) (pv 1) (fun _ _ => rfl)))))), ?_⟩
  obtain ⟨⟨dx, h1⟩, h2⟩ := id S
  refine ⟨_, rfl, p, dx, _, rfl, h1, fldK_no l (by decide +kernel), _, rfl, p, l, ns, n, rfl, S, hl, fun c => ?_, fun c => k2 c⟩
  obtain ⟨⟨c0, c1⟩, c2⟩ := id c
  refine ⟨_, rfl, p, a.c_Counts, dx, _, _, rfl, h1, T.cl_Counts, T.n_Counts_kept, fldK_kept l, _, rfl, l, _, _, _, rfl, rfl, SqL.of h2, atI_getD c0 c1, _, _, rfl, rfl, ?_⟩
  refine ⟨_, rfl, p, a.c_Counts, dx, _, _, rfl, h1, T.cl_Counts, T.n_Counts_kept, fldK_kept l, _, rfl, l, _, n, _, rfl, rfl, h2, ixN_map c0 c1, ?_⟩
  have e := map_set ns n.toNat (ns.getD n.toNat 0 - 1)
  refine ⟨_, rfl, p, a.c_Counts, dx, _, _, rfl, turn_read a.c_Counts h1 _ h2, T.cl_Counts, T.n_Counts_kept, fldK_kept l, _, rfl, l, _, n, .int (ns.getD n.toNat 0 - 1), rfl, rfl, SqL.of upd_same, ?_, ?_⟩
  · show atI ((ns.map V.int).set n.toNat (V.int (ns.getD n.toNat 0 - 1))) n = _
    rw [e, atI_getD c0 (by rw [List.length_set]; exact c1), getD_set_self (by omega)]
  · show Q _ (upd H l (.lst ((ns.map V.int).set n.toNat (V.int (ns.getD n.toNat 0 - 1)))))
    rw [e]
    exact k1 c
theorem ok_Counts_free {dvs : List V} (R : RawM K a.c_Counts "free" "Counts.free" s_Counts_free ["self"] dvs) (T : Txt K mg a) :
    HasMe P w K mg base a.c_Counts 1 "free" ["self"] (spFree a) dvs := by
  refine R.ok sc_Counts_free (fun vs H Q E h => ?_) (fun f cdv A outer s H vs Q E hr h => ?_)
  · obtain ⟨p, l, ns, rfl, _⟩ := h
    rfl
  obtain ⟨p, l, ns, rfl, S, k⟩ := h
  refine ⟨_, (@pss_one _ _ _ (@ps_ret _ _ _ _ (pe_bm PySem.F.plainAttrs_list PySem.F.slot_list_count PySem.F.type_list_count mt_count (pe_fld (pv 0) rfl) (@pa_cn _ _ _ _ _ pe_int pa_nil rfl)))), ?_⟩
  obtain ⟨⟨dx, h1⟩, h2⟩ := id S
  exact ⟨_, rfl, p, a.c_Counts, dx, _, _, rfl, h1, T.cl_Counts, T.n_Counts_kept, fldK_kept l, .inl ⟨rfl, _, SqL.of h2⟩, l, ns, 0, rfl, rfl, h2, k⟩
theorem ok_Counts_told {dvs : List V} (R : RawM K a.c_Counts "told" "Counts.told" s_Counts_told ["self"] dvs) (T : Txt K mg a) :
    HasMe P w K mg base a.c_Counts 1 "told" ["self"] (spTold a) dvs := by
  refine R.ok sc_Counts_told (fun vs H Q E h => ?_) (fun f cdv A outer s H vs Q E hr h => ?_)
  · obtain ⟨p, l, ns, rfl, _⟩ := h
    rfl
  obtain ⟨p, l, ns, rfl, S, k⟩ := h
  refine ⟨_, (@pss_one _ _ _ (@ps_ret _ _ _ _ (pe_callTy call_list_of (by rfl) T.b_list PyProof.Rows.Boot.«list» (@pa_cn _ _ _ _ _ (pe_fld (pv 0) rfl) pa_nil rfl)))), ?_⟩
  obtain ⟨⟨dx, h1⟩, h2⟩ := id S
  exact ⟨_, rfl, p, a.c_Counts, dx, _, _, rfl, h1, T.cl_Counts, T.n_Counts_kept, fldK_kept l, l, _, rfl, .inl (SqL.of h2), k⟩
theorem ok_Counts_taken {dvs : List V} (R : RawM K a.c_Counts "taken" "Counts.taken" s_Counts_taken ["self", "count"] dvs) (T : Txt K mg a)
    (h_Counts_free : HasMe P w K mg base a.c_Counts 1 "free" ["self"] (spFree a) []) :
    HasMe P w K mg base a.c_Counts 2 "taken" ["self", "count"] (spTaken a) dvs := by
  refine R.ok sc_Counts_taken (fun vs H Q E h => ?_) (fun f cdv A outer s H vs Q E hr h => ?_)
  · obtain ⟨p, l, ns, c, rfl, _⟩ := h
    rfl
  obtain ⟨p, l, ns, c, rfl, S, hl, k1, k2⟩ := h
  refine ⟨_, (@pss_cons _ _ _ _ _ (ps_if (pt_cmpR op_eq (pe_me0 (pv 0) T.cl_Counts h_Counts_free (hr.mono (by decide)) pass_def) pe_int (nomark _)) (@pss_one _ _ _ (ps_raise T.x_Full rfl (by rfl) T.m_Full pass_def (@pa_cn _ _ _ _ _ pe_str pa_nil rfl))) pss_nil)
      (@pss_cons _ _ _ _ _ (@ps_set _ _ 2 _ _ _ _ sc_Counts_taken.nd rfl (by first | exact Or.inl rfl | exact Or.inr rfl) (pe_bm PySem.F.plainAttrs_list PySem.F.slot_list_index PySem.F.type_list_index mt_index (pe_fld (pv 0) rfl) (@pa_cn _ _ _ _ _ pe_int pa_nil rfl)) (by rfl) (by first | exact Or.inl rfl | exact Or.inr rfl))
      (@pss_cons _ _ _ _ _ (ps_asg (pv 1) (pg_sub (pe_fld (pv 0) rfl) (pv 2) set_list))
      (@pss_one _ _ _ (@ps_ret _ _ _ _ (pv 2)))))), ?_⟩
  obtain ⟨⟨dx, h1⟩, h2⟩ := id S
  refine ⟨_, rfl, p, dx, _, rfl, h1, fldK_no l (by decide +kernel), p, l, ns, rfl, S, rfl, _, rfl, iteI (fun z => ?_) fun z => ?_⟩
  · exact ⟨one_line, k2 (count_zero.mp z)⟩
  · have hm : (0 : Int) ∈ ns := Classical.byContradiction fun q => z (count_zero.mpr q)
    have lt : ns.idxOf 0 < ns.length := List.idxOf_lt_length_iff.mpr hm
    refine ⟨_, rfl, p, a.c_Counts, dx, _, _, rfl, h1, T.cl_Counts, T.n_Counts_kept, fldK_kept l, .inl ⟨rfl, _, SqL.of h2⟩, l, ns, 0, rfl, rfl, h2, hm, ?_⟩
    refine ⟨_, rfl, _, rfl, p, a.c_Counts, dx, _, _, rfl, h1, T.cl_Counts, T.n_Counts_kept, fldK_kept l, _, rfl, l, _, _, _, rfl, rfl, h2, ixN_map (by omega) (by omega), _, rfl, ?_⟩
    show Q _ (upd H l (.lst ((ns.map V.int).set _ (V.int c))))
    rw [map_set, Int.toNat_natCast]
    exact k1 hm
theorem ok_Counts___init__ {dvs : List V} (R : RawI K a.c_Counts "Counts.__init__" s_Counts___init__ ["self", "many"] dvs) (T : Txt K mg a) :
    HasMk P w K mg base a.c_Counts 1 ["self", "many"] (spInit a) dvs := by
  refine R.ok sc_Counts___init__ (fun vs H Q E h => ?_) (fun f cdv A outer s H vs Q E hr h => ?_)
  · obtain ⟨p, dx, n, rfl, _⟩ := h
    rfl
  obtain ⟨p, dx, n, rfl, hp, k1, k2⟩ := h
  refine ⟨_, (@pss_cons _ _ _ _ _ (ps_if (pt_not (pt_chain op_le op_le pe_int (pv 1) (pe_globI (by rfl) T.g_MOST_NUMBERS))) (@pss_one _ _ _ (ps_raise T.x_NoShape rfl (by rfl) T.m_NoShape pass_def (@pa_cn _ _ _ _ _ pe_str pa_nil rfl))) pss_nil)
      (@pss_one _ _ _ (ps_fld (pv 0) (pe_op op_rep (@pe_lst _ _ _ _ (@pa_cn _ _ _ _ _ pe_int pa_nil rfl)) (pv 1)) rfl))), ?_⟩
  refine ⟨_, rfl, _, _, rfl, rfl, _, rfl, iteD (fun c0 => ?_) (fun c0 => ?_)⟩
  · refine ⟨_, _, rfl, rfl, _, rfl, iteN (fun c1 => ?_) (fun c1 => ?_)⟩
    · exact ⟨one_line, k2 fun z => c1 z.2⟩
    · have c1' : n ≤ 64 := c1
      refine ⟨one_line, fun q hq => ⟨_, rfl, q, n, [V.int 0], rfl, rfl, upd_same, by omega, by omega, ?_, fun l hl => ?_⟩⟩
      · rw [sizeLine_eq]; show 1 * n.toNat ≤ _; omega
      · have hql : l ≠ q := fun z => by rw [z, upd_same] at hl; cases hl
        have hl0 : H l = none := by rw [upd_ne hql] at hl; exact hl
        have npq := ne_of_none hp hq
        have npl := ne_of_none hp hl0
        refine ⟨_, rfl, p, a.c_Counts, dx, [], rfl, (by rw [upd_ne npl, upd_ne npq]; exact hp), T.cl_Counts, T.n_Counts_kept, (by show 0 < 1000; decide), ?_⟩
        refine k1 ⟨c0, c1'⟩ l _ hl0 ⟨⟨dx, upd_same⟩, ?_⟩ fun b o e hb => ?_
        · rw [upd_ne npl.symm, upd_same, rep_zero]
        · rw [upd_ne hb, upd_ne (ne_of_none e hl0), upd_ne (ne_of_none e hq)]
          exact e
  · exact ⟨_, rfl, iteT ⟨one_line, k2 fun z => c0 z.1⟩⟩
end
abbrev fldT (t : Addr) (s : Int) (d : Addr) : List (Str × V) := [("tally", .ref t), ("length", .int s), ("contents", .ref d)]
def IsWord (i : Int) : Prop := 0 ≤ i ∧ i < 2 ^ 64
instance (i : Int) : Decidable (IsWord i) := by unfold IsWord; infer_instance
abbrev Rooms := List (Int × List Int)
abbrev Rooms.cs (R : Rooms) : List Int := R.map (·.1)
structure StIn (a : Adr) (H : Hp) (p dx t l d : Addr) (s : Int) (R : Rooms) (kvs : List (Key × V)) (fp : List Addr) : Prop where
  ob : H p = some (.ins a.c_Store dx (fldT t s d))
  cn : CntAt a.c_Counts H t l R.cs
  dc : H d = some (.dK kvs)
  us : ∀ (i : Nat) (c : Int) (row : List Int), R[i]? = some (c, row) → c ≠ 0 → ∃ x, valV kvs (.inl i) = some (.ref x) ∧ H x = some (.lst (row.map V.int)) ∧ x ∈ fp ∧ (row.length : Int) = s ∧ x ≠ l
  fr : ∀ (i : Nat) (row : List Int), R[i]? = some (0, row) → valV kvs (.inl (i : Int)) = none
  ap : ∀ (i j : Key) (x : Addr), valV kvs i = some (.ref x) → valV kvs j = some (.ref x) → i = j
  inf : ∀ (k : Key) (y : Addr), valV kvs k = some (.ref y) → y ∈ fp
  apq : ∀ (y : Addr), H y = none → ∀ k : Key, ¬ valV kvs k = some (.ref y)
  nd : (kvs.map (·.1)).Nodup
  ln : kvs.length + R.cs.count 0 = R.length
  fpp : p ∈ fp
  fpt : t ∈ fp
  fpl : l ∈ fp
  fpd : d ∈ fp
  lv : ∀ b ∈ fp, ∃ u, H b = some u
  r64 : R.length ≤ 64
  s1 : 1 ≤ s
  s64 : s ≤ 64
def StAt (a : Adr) (H : Hp) (p : Addr) (s : Int) (R : Rooms) (fp : List Addr) : Prop := ∃ dx t l d kvs, StIn a H p dx t l d s R kvs fp
theorem StIn.eqv {a : Adr} {H H' : Hp} {p dx t l d : Addr} {s : Int} {R : Rooms} {kvs : List (Key × V)} {fp : List Addr} (S : StIn a H p dx t l d s R kvs fp) (e : ∀ b u, H b = some u → b ∈ fp → H' b = some u) : StIn a H' p dx t l d s R kvs fp := by
  obtain ⟨dx', q⟩ := S.cn.ob
  exact { S with
    ob := e _ _ S.ob S.fpp
    cn := ⟨⟨dx', e _ _ q S.fpt⟩, e _ _ S.cn.ls S.fpl⟩
    dc := e _ _ S.dc S.fpd
    us := fun i c row h1 h2 => by
      obtain ⟨x, z1, z2, z3, z4⟩ := S.us i c row h1 h2
      exact ⟨x, z1, e _ _ z2 z3, z3, z4⟩
    apq := fun y hy k h => by
      obtain ⟨u, q⟩ := S.lv y (S.inf k y h)
      rw [e y u q (S.inf k y h)] at hy; cases hy
    lv := fun b hb => by
      obtain ⟨u, q⟩ := S.lv b hb
      exact ⟨u, e b u q hb⟩ }
theorem StAt.same {a : Adr} {H H' : Hp} {p : Addr} {s : Int} {R : Rooms} {fp : List Addr} (S : StAt a H p s R fp) (e : Same H H') : StAt a H' p s R fp := by
  obtain ⟨dx, t, l, d, kvs, S⟩ := S
  exact ⟨dx, t, l, d, kvs, S.eqv fun b u h _ => e b u h⟩
def Used (R : Rooms) (n : Int) : Prop := (0 ≤ n ∧ n < R.cs.length) ∧ R.cs.getD n.toNat 0 ≠ 0
def rowOf (R : Rooms) (n : Int) : List Int := (R.map (·.2)).getD n.toNat []
def spIsWord : Sp := fun vs H Q _ => ∃ i, vs = [.int i] ∧ Q (.bl (decide (IsWord i))) H
def spChkWord (a : Adr) : Sp := fun vs H Q E => ∃ i, vs = [.int i] ∧ (IsWord i → Q .non H) ∧ (¬ IsWord i → E (.ref a.c_NoWord) none H)
def spStInit (a : Adr) : Sp := fun vs H Q E => ∃ (p dx : Addr) (n s : Int), vs = [.ref p, .int n, .int s] ∧ H p = some (.ins a.c_Store dx []) ∧
  ((1 ≤ s ∧ s ≤ 64) ∧ (0 ≤ n ∧ n ≤ 64) → ∀ H' fp, StAt a H' p s (List.replicate n.toNat (0, [])) fp → (∀ b u, H b = some u → b ≠ p → H' b = some u) → (∀ b, b ∈ fp → (b = p ∨ H b = none) ∧ ∃ u, H' b = some u) → Q .non H') ∧
  (¬ ((1 ≤ s ∧ s ≤ 64) ∧ (0 ≤ n ∧ n ≤ 64)) → ∀ H', Same H H' → E (.ref a.c_NoShape) none H')
def spChkWords (a : Adr) : Sp := fun vs H Q E => ∃ (p w : Addr) (s : Int) (R : Rooms) (fp : List Addr) (ws : List Int), vs = [.ref p, .ref w] ∧ StAt a H p s R fp ∧ H w = some (.lst (ws.map V.int)) ∧
  ((ws.length : Int) = s ∧ (∀ x ∈ ws, IsWord x) → Q .non H) ∧ (¬ ((ws.length : Int) = s ∧ ∀ x ∈ ws, IsWord x) → E (.ref a.c_NoWord) none H)
def spChkPlace (a : Adr) : Sp := fun vs H Q E => ∃ (p : Addr) (s : Int) (R : Rooms) (fp : List Addr) (n i : Int), vs = [.ref p, .int n, .int i] ∧ StAt a H p s R fp ∧
  (Used R n → 0 ≤ i ∧ i < s → Q .non H) ∧ (¬ Used R n → E (.ref a.c_NoNumber) none H) ∧ (Used R n → ¬ (0 ≤ i ∧ i < s) → E (.ref a.c_NoAddress) none H)
def spMade (a : Adr) : Sp := fun vs H Q E => ∃ (p w : Addr) (s : Int) (R : Rooms) (fp : List Addr) (ws : List Int) (c : Int), vs = [.ref p, .ref w, .int c] ∧ StAt a H p s R fp ∧ H w = some (.lst (ws.map V.int)) ∧ w ∉ fp ∧ 1 ≤ c ∧
  (((ws.length : Int) = s ∧ ∀ x ∈ ws, IsWord x) → 0 ∈ R.cs → ∀ H' fp', StAt a H' p s (R.set (R.cs.idxOf 0) (c, ws)) fp' → Fr fp fp' H H' → (∀ b ∈ fp, b ∈ fp') → Q (.int (R.cs.idxOf 0 : Nat)) H') ∧
  (((ws.length : Int) = s ∧ ∀ x ∈ ws, IsWord x) → 0 ∉ R.cs → E (.ref a.c_Full) none H) ∧
  (¬ ((ws.length : Int) = s ∧ ∀ x ∈ ws, IsWord x) → E (.ref a.c_NoWord) none H)
def spWords (a : Adr) : Sp := fun vs H Q E => ∃ (p : Addr) (s : Int) (R : Rooms) (fp : List Addr) (n : Int), vs = [.ref p, .int n] ∧ StAt a H p s R fp ∧
  (Used R n → ∀ q, H q = none → Q (.ref q) (upd H q (.lst ((rowOf R n).map V.int)))) ∧ (¬ Used R n → E (.ref a.c_NoNumber) none H)
def spWordAt (a : Adr) : Sp := fun vs H Q E => ∃ (p : Addr) (s : Int) (R : Rooms) (fp : List Addr) (n i : Int), vs = [.ref p, .int n, .int i] ∧ StAt a H p s R fp ∧
  (Used R n → 0 ≤ i ∧ i < s → Q (.int ((rowOf R n).getD i.toNat 0)) H) ∧ (¬ Used R n → E (.ref a.c_NoNumber) none H) ∧ (Used R n → ¬ (0 ≤ i ∧ i < s) → E (.ref a.c_NoAddress) none H)
def putRow (R : Rooms) (n i v : Int) : Rooms := R.set n.toNat (R.cs.getD n.toNat 0, (rowOf R n).set i.toNat v)
def spPut (a : Adr) : Sp := fun vs H Q E => ∃ (p : Addr) (s : Int) (R : Rooms) (fp : List Addr) (n i v : Int), vs = [.ref p, .int n, .int i, .int v] ∧ StAt a H p s R fp ∧
  (Used R n → 0 ≤ i ∧ i < s → IsWord v → ∀ H', StAt a H' p s (putRow R n i v) fp → Fr fp fp H H' → Q .non H') ∧
  (¬ Used R n → E (.ref a.c_NoNumber) none H) ∧ (Used R n → ¬ (0 ≤ i ∧ i < s) → E (.ref a.c_NoAddress) none H) ∧ (Used R n → 0 ≤ i ∧ i < s → ¬ IsWord v → E (.ref a.c_NoWord) none H)
theorem StIn.at {a : Adr} {H : Hp} {p dx t l d : Addr} {s : Int} {R : Rooms} {kvs : List (Key × V)} {fp : List Addr} (S : StIn a H p dx t l d s R kvs fp) {n : Int} (u : Used R n) :
    ∃ x, DGet H d (.int n) (some (.ref x)) ∧ H x = some (.lst ((rowOf R n).map V.int)) ∧ x ∈ fp ∧ ((rowOf R n).length : Int) = s ∧ x ≠ l ∧ valV kvs (.inl n) = some (.ref x) := by
  obtain ⟨⟨n0, n1⟩, n2⟩ := u
  have hl : n.toNat < R.length := by rw [List.length_map] at n1; omega
  have e1 : R[n.toNat]? = some (R[n.toNat].1, R[n.toNat].2) := List.getElem?_eq_getElem hl
  have e2 : R.cs.getD n.toNat 0 = R[n.toNat].1 := by rw [List.getD_eq_getElem?_getD, List.getElem?_map, List.getElem?_eq_getElem hl]; rfl
  have e3 : rowOf R n = R[n.toNat].2 := by unfold rowOf; rw [List.getD_eq_getElem?_getD, List.getElem?_map, List.getElem?_eq_getElem hl]; rfl
  obtain ⟨x, z1, z2, z3, z4, z5⟩ := S.us _ _ _ e1 (by rw [← e2]; exact n2)
  have e4 : ((n.toNat : Nat) : Int) = n := by omega
  rw [e4] at z1
  have g := DGet.k (k := .inl n) S.dc
  rw [z1] at g
  exact ⟨x, g, by rw [e3]; exact z2, z3, by rw [e3]; exact z4, z5, z1⟩
theorem set_same {L : List Int} {k : Nat} : L.set k (L.getD k 0) = L := by
  refine List.ext_getElem? fun j => ?_
  by_cases e : k = j
  · subst e
    by_cases h : k < L.length
    · rw [List.getElem?_set_self h, List.getElem?_eq_getElem h, List.getD_eq_getElem?_getD, List.getElem?_eq_getElem h]; rfl
    · rw [List.getElem?_eq_none (by rw [List.length_set]; omega), List.getElem?_eq_none (by omega)]
  · rw [List.getElem?_set_ne e]
theorem cnt_set {c : Int} (hc : c ≠ 0) : ∀ {L : List Int} {k : Nat}, L[k]? = some 0 → (L.set k c).count 0 + 1 = L.count 0
  | [], k, h => by simp at h
  | x :: r, 0, h => by
    simp at h
    subst h
    rw [List.set_cons_zero, List.count_cons_self, List.count_cons_of_ne hc]
  | x :: r, k + 1, h => by
    have := cnt_set hc (L := r) (k := k) (by simpa using h)
    rw [List.set_cons_succ, List.count_cons, List.count_cons]
    omega
theorem cnt_free {L : List Int} {k : Nat} {c : Int} (hc : c ≠ 0) (h : L[k]? = some c) : (L.set k 0).count 0 = L.count 0 + 1 := by
  have hk : k < L.length := (List.getElem?_eq_some_iff.mp h).1
  have q := cnt_set hc (L := L.set k 0) (k := k) (List.getElem?_set_self hk)
  rw [List.set_set] at q
  have e : L.set k c = L := by
    have : c = L.getD k 0 := by rw [List.getD_eq_getElem?_getD, h]; rfl
    rw [this]; exact set_same
  rw [e] at q
  omega
theorem Rooms.cs_set (R : Rooms) (k : Nat) (c : Int) (row : List Int) : Rooms.cs (R.set k (c, row)) = (Rooms.cs R).set k c := List.map_set ..
section
variable {a : Adr} {H : Hp} {p dx t l d : Addr} {s : Int} {R : Rooms} {kvs : List (Key × V)} {fp : List Addr}
theorem StIn.put (S : StIn a H p dx t l d s R kvs fp) {n i v : Int} (u : Used R n) {x : Addr} (hx : H x = some (.lst ((rowOf R n).map V.int))) (hl : ((rowOf R n).length : Int) = s) (hxl : x ≠ l) (hv : valV kvs (.inl n) = some (.ref x)) :
    StIn a (upd H x (.lst (((rowOf R n).set i.toNat v).map V.int))) p dx t l d s (putRow R n i v) kvs fp := by
  have npx : p ≠ x := ne_of S.ob hx (by intro z; cases z)
  obtain ⟨dxt, hT⟩ := S.cn.ob
  have ntx : t ≠ x := ne_of hT hx (by intro z; cases z)
  have ndx : d ≠ x := ne_of S.dc hx (by intro z; cases z)
  have ec : Rooms.cs (putRow R n i v) = Rooms.cs R := by unfold putRow; rw [Rooms.cs_set]; exact set_same
  obtain ⟨⟨n0, n1⟩, n2⟩ := u
  have hk : n.toNat < R.length := by rw [List.length_map] at n1; omega
  have en : ((n.toNat : Nat) : Int) = n := by omega
  exact { S with
    ob := by rw [upd_ne npx]; exact S.ob
    cn := ⟨⟨dxt, by rw [upd_ne ntx]; exact hT⟩, by rw [upd_ne hxl.symm, ec]; exact S.cn.ls⟩
    dc := by rw [upd_ne ndx]; exact S.dc
    us := fun j c row e1 e2 => by
      unfold putRow at e1
      by_cases q : n.toNat = j
      · subst q
        rw [List.getElem?_set_self hk] at e1
        cases e1
        have hxf : x ∈ fp := by
          obtain ⟨y, z1, _, z3, _⟩ := S.us n.toNat _ _ (List.getElem?_eq_getElem hk) (by
            have : (Rooms.cs R).getD n.toNat 0 = R[n.toNat].1 := by rw [List.getD_eq_getElem?_getD, List.getElem?_map, List.getElem?_eq_getElem hk]; rfl
            intro z; exact n2 (this.trans z))
          rw [en, hv] at z1
          cases z1
          exact z3
        exact ⟨x, by rw [en]; exact hv, upd_same, hxf, by rw [List.length_set]; exact hl, hxl⟩
      · rw [List.getElem?_set_ne q] at e1
        obtain ⟨y, z1, z2, z3, z4, z5⟩ := S.us j c row e1 e2
        have nyx : y ≠ x := fun z => by
          subst z
          have := S.ap _ _ _ z1 hv
          injection this with this
          omega
        exact ⟨y, z1, by rw [upd_ne nyx]; exact z2, z3, z4, z5⟩
    fr := fun j row e1 => by
      unfold putRow at e1
      by_cases q : n.toNat = j
      · subst q
        rw [List.getElem?_set_self hk] at e1
        have e1 := Option.some.inj e1
        injection e1 with e1 _
        exact absurd e1 n2
      · rw [List.getElem?_set_ne q] at e1
        exact S.fr j row e1
    apq := fun y hy k h => by
      have nyx : y ≠ x := fun z => by rw [z, upd_same] at hy; cases hy
      rw [upd_ne nyx] at hy
      exact S.apq y hy k h
    ln := by rw [ec]; unfold putRow; rw [List.length_set]; exact S.ln
    lv := fun b hb => by
      obtain ⟨o, e⟩ := S.lv b hb
      by_cases q : b = x
      · exact ⟨_, by rw [q]; exact upd_same⟩
      · exact ⟨o, by rw [upd_ne q]; exact e⟩
    r64 := by unfold putRow; rw [List.length_set]; exact S.r64 }
theorem StIn.made (S : StIn a H p dx t l d s R kvs fp) {c : Int} {ws : List Int} {q : Addr} (h0 : 0 ∈ R.cs) (hc : 1 ≤ c) (hw : (ws.length : Int) = s) (hq : upd H l (.lst ((R.cs.set (R.cs.idxOf 0) c).map V.int)) q = none) :
    StIn a (upd (upd (upd H l (.lst ((R.cs.set (R.cs.idxOf 0) c).map V.int))) q (.lst (ws.map V.int))) d (.dK (putK kvs (.inl ((R.cs.idxOf 0 : Nat) : Int)) (.ref q)))) p dx t l d s (R.set (R.cs.idxOf 0) (c, ws)) (putK kvs (.inl ((R.cs.idxOf 0 : Nat) : Int)) (.ref q)) (q :: fp) ∧
    Fr fp (q :: fp) H (upd (upd (upd H l (.lst ((R.cs.set (R.cs.idxOf 0) c).map V.int))) q (.lst (ws.map V.int))) d (.dK (putK kvs (.inl ((R.cs.idxOf 0 : Nat) : Int)) (.ref q)))) ∧ kvs.length < sizeLine := by
  obtain ⟨dxt, hT⟩ := S.cn.ob
  have hls := S.cn.ls
  have npl : p ≠ l := ne_of S.ob hls (by intro z; cases z)
  have ntl : t ≠ l := ne_of hT hls (by intro z; cases z)
  have ndl : d ≠ l := ne_of S.dc hls (by intro z; cases z)
  have npd : p ≠ d := ne_of S.ob S.dc (by intro z; cases z)
  have ntd : t ≠ d := ne_of hT S.dc (by intro z; cases z)
  have nql : q ≠ l := fun z => by rw [z, upd_same] at hq; cases hq
  have hq0 : H q = none := by rw [upd_ne nql] at hq; exact hq
  have npq := ne_of_none S.ob hq0
  have ntq := ne_of_none hT hq0
  have ndq := ne_of_none S.dc hq0
  have lt : R.cs.idxOf 0 < R.cs.length := List.idxOf_lt_length_iff.mpr h0
  have hk : R.cs.idxOf 0 < R.length := by rw [List.length_map] at lt; exact lt
  have e0 : R.cs[R.cs.idxOf 0]? = some 0 := by rw [List.getElem?_eq_getElem lt, List.getElem_idxOf lt]
  generalize R.cs.idxOf 0 = k at *
  have hfree : valV kvs (.inl (k : Int)) = none := by
    rw [List.getElem?_map, List.getElem?_eq_getElem hk] at e0
    have e0 := Option.some.inj e0
    exact S.fr k R[k].2 (by rw [List.getElem?_eq_getElem hk]; rw [← e0])
  have hz : kvs.length < sizeLine := by rw [sizeLine_eq]; have := S.ln; have := S.r64; omega
  refine ⟨?_, ?_, hz⟩
  · exact {
      ob := by rw [upd_ne npd, upd_ne npq, upd_ne npl]; exact S.ob
      cn := ⟨⟨dxt, by rw [upd_ne ntd, upd_ne ntq, upd_ne ntl]; exact hT⟩, by rw [upd_ne ndl.symm, upd_ne nql.symm, upd_same, Rooms.cs_set]⟩
      dc := upd_same
      us := fun j c' row e1 e2 => by
        by_cases z : k = j
        · subst z
          rw [List.getElem?_set_self hk] at e1
          cases e1
          exact ⟨q, by rw [valV_put, if_pos rfl], by rw [upd_ne ndq.symm]; exact upd_same, List.mem_cons_self, hw, nql⟩
        · rw [List.getElem?_set_ne z] at e1
          obtain ⟨y, z1, z2, z3, z4, z5⟩ := S.us j c' row e1 e2
          have nyd : y ≠ d := ne_of z2 S.dc (by intro z; cases z)
          exact ⟨y, by rw [valV_put, if_neg (fun w => z (by injection w with w; omega))]; exact z1, by rw [upd_ne nyd, upd_ne (ne_of_none z2 hq0), upd_ne z5]; exact z2, List.mem_cons_of_mem _ z3, z4, z5⟩
      fr := fun j row e1 => by
        by_cases z : k = j
        · subst z
          rw [List.getElem?_set_self hk] at e1
          have e1 := Option.some.inj e1
          injection e1 with e1 _
          omega
        · rw [List.getElem?_set_ne z] at e1
          rw [valV_put, if_neg (fun w => z (by injection w with w; omega))]
          exact S.fr j row e1
      ap := fun i j x h1 h2 => by
        rw [valV_put] at h1 h2
        have old : ∀ i : Key, valV kvs i = some (.ref q) → False := fun i h => S.apq q hq0 i h
        split at h1
        · split at h2
          · next z1 z2 => rw [z1, z2]
          · cases h1; exact (old _ h2).elim
        · split at h2
          · cases h2; exact (old _ h1).elim
          · exact S.ap i j x h1 h2
      nd := nd_putK _ S.nd hfree
      ln := by
        rw [putK_new _ hfree, List.length_append, List.length_singleton, Rooms.cs_set, List.length_set]
        have := cnt_set (c := c) (by omega) e0
        have := S.ln
        omega
      fpp := List.mem_cons_of_mem _ S.fpp, fpt := List.mem_cons_of_mem _ S.fpt, fpl := List.mem_cons_of_mem _ S.fpl, fpd := List.mem_cons_of_mem _ S.fpd
      lv := fun b hb => by
        by_cases z1 : b = d
        · exact ⟨_, by rw [z1]; exact upd_same⟩
        · rw [upd_ne z1]
          by_cases z2 : b = q
          · exact ⟨_, by rw [z2]; exact upd_same⟩
          · rw [upd_ne z2]
            by_cases z3 : b = l
            · exact ⟨_, by rw [z3]; exact upd_same⟩
            · rw [upd_ne z3]
              rcases List.mem_cons.mp hb with hb | hb
              · exact absurd hb z2
              · exact S.lv b hb
      inf := fun k y h => by
        rw [valV_put] at h
        split at h
        · cases h; exact List.mem_cons_self
        · exact List.mem_cons_of_mem _ (S.inf k y h)
      apq := fun y hy i h => by
        rw [valV_put] at h
        have nyd : y ≠ d := fun z => by rw [z, upd_same] at hy; cases hy
        have nyq : y ≠ q := fun z => by rw [z, upd_ne ndq.symm, upd_same] at hy; cases hy
        have nyl : y ≠ l := fun z => by rw [z, upd_ne ndl.symm, upd_ne nql.symm, upd_same] at hy; cases hy
        rw [upd_ne nyd, upd_ne nyq, upd_ne nyl] at hy
        split at h
        · cases h; exact nyq rfl
        · exact S.apq y hy i h
      r64 := by rw [List.length_set]; exact S.r64
      s1 := S.s1, s64 := S.s64 }
  · exact ((Fr.put S.fpl).trans (Fr.new hq)).trans (Fr.put (List.mem_cons_of_mem _ S.fpd))
end
section
variable {P : Program} {w : World} {K : PySem.W.Frag} {mg : Str → Option Value} {base : Heap} {a : Adr}
theorem ok_is_word {dvs : List V} (R : RawF K mg "is_word" s_is_word ["thing"] dvs) (T : Txt K mg a) :
    HasFn P w K mg base 1 "is_word" ["thing"] (spIsWord) dvs := by
  refine R.ok sc_is_word (fun vs H Q E h => ?_) (fun f cdv A outer s H vs Q E hr h => ?_)
  · obtain ⟨i, rfl, _⟩ := h
    rfl
  obtain ⟨i, rfl, q⟩ := h
  refine ⟨_, (@pss_one _ _ _ (@ps_ret _ _ _ _ (pe_and (pe_callB call_isinst (by rfl) T.b_isinstance PyProof.Rows.Boot.«isinstance» (@pa_cn _ _ _ _ _ (pv 0) (@pa_cn _ _ _ _ _ (pe_bltn (v := .ty "int") (by rfl) T.b_int PyProof.Rows.Boot.«int» rfl) pa_nil rfl) rfl)) (pe_and (pe_not (pe_callB call_isinst (by rfl) T.b_isinstance PyProof.Rows.Boot.«isinstance» (@pa_cn _ _ _ _ _ (pv 0) (@pa_cn _ _ _ _ _ (pe_bltn (v := .ty "bool") (by rfl) T.b_bool PyProof.Rows.Boot.«bool» rfl) pa_nil rfl) rfl))) (pe_one (pe_chain op_le op_lt pe_int (pv 0) (pe_op op_pow pe_int pe_int))))))), ?_⟩
  walk_at "go"
  refine iteD (fun c0 => ?_) (fun c0 => ?_)
  · walk_at "go"
    have e : decide (IsWord i) = decide (i < 2 ^ 64) := by rw [decide_eq_decide]; unfold IsWord; omega
    rw [e] at q
    exact q
  · rw [decide_eq_false fun z => c0 z.1] at q
    exact q
theorem ok_check_word {dvs : List V} (R : RawF K mg "check_word" s_check_word ["thing"] dvs) (T : Txt K mg a)
    (h_is_word : HasFn P w K mg base 1 "is_word" ["thing"] (spIsWord) []) :
    HasFn P w K mg base 2 "check_word" ["thing"] (spChkWord a) dvs := by
  refine R.ok sc_check_word (fun vs H Q E h => ?_) (fun f cdv A outer s H vs Q E hr h => ?_)
  · obtain ⟨i, rfl, _⟩ := h
    rfl
  obtain ⟨i, rfl, k1, k2⟩ := h
  refine ⟨_, (@pss_one _ _ _ (ps_if (pt_not (pt_val (pe_fn h_is_word (hr.mono (by decide)) (by rfl) pass_def (@pa_cn _ _ _ _ _ (pv 0) pa_nil rfl)))) (@pss_one _ _ _ (ps_raise T.x_NoWord rfl (by rfl) T.m_NoWord pass_def (@pa_cn _ _ _ _ _ pe_str pa_nil rfl))) pss_nil)), ?_⟩
  walk_at "go"
  exact iteN (fun z => ⟨one_line, k2 z⟩) fun z => k1 z
theorem ok_Store___init__ {dvs : List V} (R : RawI K a.c_Store "Store.__init__" s_Store___init__ ["self", "many", "size"] dvs) (T : Txt K mg a)
    (h_Counts___init__ : HasMk P w K mg base a.c_Counts 1 ["self", "many"] (spInit a) []) :
    HasMk P w K mg base a.c_Store 3 ["self", "many", "size"] (spStInit a) dvs := by
  refine R.ok sc_Store___init__ (fun vs H Q E h => ?_) (fun f cdv A outer s H vs Q E hr h => ?_)
  · obtain ⟨p, dx, n, s, rfl, _⟩ := h
    rfl
  obtain ⟨p, dx, n, s, rfl, hp, k1, k2⟩ := h
  refine ⟨_, (@pss_cons _ _ _ _ _ (ps_if (pt_not (pt_chain op_le op_le pe_int (pv 2) (pe_globI (by rfl) T.g_MOST_WORDS))) (@pss_one _ _ _ (ps_raise T.x_NoShape rfl (by rfl) T.m_NoShape pass_def (@pa_cn _ _ _ _ _ pe_str pa_nil rfl))) pss_nil)
      (@pss_cons _ _ _ _ _ (ps_fld (pv 0) (pe_mk h_Counts___init__ (hr.mono (by decide)) (by rfl) T.m_Counts pass_def (@pa_cn _ _ _ _ _ (pv 1) pa_nil rfl)) rfl)
      (@pss_cons _ _ _ _ _ (ps_fld (pv 0) (pv 2) rfl)
      (@pss_one _ _ _ (ps_fld (pv 0) pe_dnewK rfl))))), ?_⟩
  have t1 := T.cl_Store; have t2 := T.n_Store_tally; have t3 := T.n_Store_length; have t4 := T.n_Store_contents
  walk_at "go"
  refine iteD (fun c0 => ?_) (fun c0 => ?_)
  · walk_at "go"
    refine iteN (fun c1 => ?_) (fun c1 => ?_)
    · walk_at "go"
      exact k2 (fun z => c1 z.1.2) _ (.refl _)
    · have c1' : s ≤ 64 := c1
      walk_at "go"
      intro x dx' hx hdx nx
      have npx := ne_of_none hp hx
      have npd := ne_of_none hp hdx
      refine ⟨x, dx', n, rfl, upd_same, fun cn l H1 hl C1 fr1 => ⟨rfl, ?_⟩, fun cn => ?_⟩
      · have hp1 : H1 p = some (.ins a.c_Store dx []) := fr1 _ _ (by rw [upd_ne npx, upd_ne npd]; exact hp) npx
        walk_at "go"
        intro d hd
        walk_at "go"
        have ndp : d ≠ p := fun z => by rw [z, upd_same] at hd; cases hd
        have hd1 : H1 d = none := by rw [upd_ne ndp, upd_ne ndp] at hd; exact hd
        have hxl : x ≠ l := C1.ne
        obtain ⟨dx1, hx1⟩ := C1.ob
        have hl1 := C1.ls
        have npl : p ≠ l := ne_of hp1 hl1 (by intro z; cases z)
        have nxd := ne_of_none hx1 hd1
        have nld := ne_of_none hl1 hd1
        have hl0 : H l = none := by
          cases e : H l with
          | none => rfl
          | some u => rw [upd_ne (ne_of_none e hx), upd_ne (ne_of_none e hdx), e] at hl; cases hl
        rw [pf_nil, pf_ne (by decide +kernel), pf_nil, pf_ne (by decide +kernel), pf_ne (by decide +kernel), pf_nil]
        have up : ∀ b u, H b = some u → b ≠ p → H1 b = some u := fun b u e nb => fr1 b u (by rw [upd_ne (ne_of_none e hx), upd_ne (ne_of_none e hdx)]; exact e) (ne_of_none e hx)
        have fin : ∀ b u, H1 b = some u → b ≠ p → b ≠ d → ∀ o1 o2 o3 o4, upd (upd (upd (upd H1 p o1) p o2) d o3) p o4 b = some u := fun b u e n1 n2 _ _ _ _ => by rw [upd_ne n1, upd_ne n2, upd_ne n1, upd_ne n1]; exact e
        have hd0 : H d = none := by
          cases e : H d with
          | none => rfl
          | some u => rw [up d u e ndp] at hd1; cases hd1
        have rc : Rooms.cs (List.replicate n.toNat ((0 : Int), ([] : List Int))) = List.replicate n.toNat 0 := List.map_replicate ..
        refine k1 ⟨⟨c0, c1'⟩, cn⟩ _ [p, x, l, d] ⟨dx, x, l, d, [], ⟨upd_same, ⟨⟨dx1, fin _ _ hx1 npx.symm nxd _ _ _ _⟩, ?_⟩, by rw [upd_ne ndp]; exact upd_same, fun i c row e1 e2 => ?_, fun _ _ _ => rfl, fun i j x h _ => (by cases h), fun k y h => (by cases h), fun y _ k h => (by cases h), List.nodup_nil, ?_, by simp, by simp, by simp, by simp, fun b hb => ?_, ?_, c0, c1'⟩⟩ (fun b u e nb => ?_) fun b hb => ?_
        · rw [rc]; exact fin _ _ hl1 npl.symm nld _ _ _ _
        · rw [List.getElem?_replicate] at e1
          split at e1
          · cases e1; exact absurd rfl e2
          · cases e1
        · rw [rc, List.count_replicate_self, List.length_replicate]; exact Nat.zero_add _
        · simp at hb
          rcases hb with rfl | rfl | rfl | rfl
          · exact ⟨_, upd_same⟩
          · exact ⟨_, fin _ _ hx1 npx.symm nxd _ _ _ _⟩
          · exact ⟨_, fin _ _ hl1 npl.symm nld _ _ _ _⟩
          · exact ⟨_, by rw [upd_ne ndp]; exact upd_same⟩
        · rw [List.length_replicate]; omega
        · exact fin b u (up b u e nb) nb (ne_of_none e hd0) _ _ _ _
        · simp at hb
          rcases hb with rfl | rfl | rfl | rfl
          · exact ⟨.inl rfl, _, upd_same⟩
          · exact ⟨.inr hx, _, fin _ _ hx1 npx.symm nxd _ _ _ _⟩
          · exact ⟨.inr hl0, _, fin _ _ hl1 npl.symm nld _ _ _ _⟩
          · exact ⟨.inr hd0, _, by rw [upd_ne ndp]; exact upd_same⟩
      · refine k2 (fun z => cn z.2) _ ?_
        have hx' : upd H dx' (.own x) x = none := by rw [upd_ne nx.symm]; exact hx
        walk_at "sm"
  · walk_at "go"
    exact k2 (fun z => c0 z.1.1) _ (.refl _)
theorem ok_Store_check_words {dvs : List V} (R : RawM K a.c_Store "check_words" "Store.check_words" s_Store_check_words ["self", "words"] dvs) (T : Txt K mg a)
    (h_check_word : HasFn P w K mg base 2 "check_word" ["thing"] (spChkWord a) []) :
    HasMe P w K mg base a.c_Store 3 "check_words" ["self", "words"] (spChkWords a) dvs := by
  refine R.ok sc_Store_check_words (fun vs H Q E h => ?_) (fun f cdv A outer s H vs Q E hr h => ?_)
  · obtain ⟨p, w, s, R, fp, ws, rfl, _⟩ := h
    rfl
  obtain ⟨p, w, s, R, fp, ws, rfl, S, hw, k1, k2⟩ := h
  refine ⟨_, (@pss_cons _ _ _ _ _ (ps_if (pt_cmpR op_ne (pe_callB call_len_seq (by rfl) T.b_len PySem.boot_len (@pa_cn _ _ _ _ _ (pv 1) pa_nil rfl)) (pe_fld (pv 0) rfl) (nomark _)) (@pss_one _ _ _ (ps_raise T.x_NoWord rfl (by rfl) T.m_NoWord pass_def (@pa_cn _ _ _ _ _ pe_str pa_nil rfl))) pss_nil)
      (@pss_one _ _ _ (ps_for own_def rfl (pi_list (pv 1)) (pg_name (i := 2) sc_Store_check_words.nd rfl (by first | exact Or.inl rfl | exact Or.inr rfl))
      (@pss_one _ _ _ (ps_expr (pe_fn h_check_word (hr.mono (by decide)) (by rfl) pass_def (@pa_cn _ _ _ _ _ (pv 2) pa_nil rfl))))))), ?_⟩
  have t1 := T.cl_Store; have t2 := T.n_Store_tally; have t3 := T.n_Store_length; have t4 := T.n_Store_contents
  obtain ⟨dx, t, l, d, kvs, S⟩ := S
  have h1 := S.ob
  walk_at "go"
  refine iteNI (fun z => ?_) (fun z => ?_)
  · walk_at "go"
    exact k2 fun q => z (by rw [List.length_map]; exact q.1)
  · rw [List.length_map] at z
    walk_at "go"
    refine for_list (xs := ws.map V.int) (fun i σ H' => (∃ v, σ = [some (.ref p), some (.ref w), v]) ∧ H' = H ∧ ∀ j x, j < i → ws[j]? = some x → IsWord x) ⟨⟨_, rfl⟩, rfl, fun j x q => absurd q (Nat.not_lt_zero _)⟩ (fun i σ H' _ q => by rw [q.2.1]; exact SqL.of hw) ?_ ?_
    · rintro i v σ H' hi ⟨⟨v1, rfl⟩, rfl, al⟩
      obtain ⟨c, rfl, hc⟩ := mem_ints hi
      walk_at "go"
      refine ⟨fun ok => ⟨⟨_, rfl⟩, rfl, fun j x q e => ?_⟩, fun bad => k2 fun q => bad (q.2 c (List.mem_of_getElem? hc))⟩
      rcases Nat.lt_succ_iff_lt_or_eq.mp q with q | rfl
      · exact al j x q e
      · rw [hc] at e; cases e; exact ok
    · rintro σ H' ⟨⟨v1, rfl⟩, rfl, al⟩
      refine k1 ⟨z, fun x hx => ?_⟩
      obtain ⟨j, hj, e⟩ := List.mem_iff_getElem.mp hx
      exact al j x (by rw [List.length_map]; exact hj) (by rw [← e]; exact List.getElem?_eq_getElem hj)
theorem ok_Store_check_place {dvs : List V} (R : RawM K a.c_Store "check_place" "Store.check_place" s_Store_check_place ["self", "number", "place"] dvs) (T : Txt K mg a)
    (h_Counts_check_taken : HasMe P w K mg base a.c_Counts 2 "check_taken" ["self", "number"] (spCheck a) []) :
    HasMe P w K mg base a.c_Store 3 "check_place" ["self", "number", "place"] (spChkPlace a) dvs := by
  refine R.ok sc_Store_check_place (fun vs H Q E h => ?_) (fun f cdv A outer s H vs Q E hr h => ?_)
  · obtain ⟨p, s, R, fp, n, i, rfl, _⟩ := h
    rfl
  obtain ⟨p, s, R, fp, n, i, rfl, S, k1, k2, k3⟩ := h
  refine ⟨_, (@pss_cons _ _ _ _ _ (ps_expr (pe_me (pe_fld (pv 0) rfl) T.cl_Counts h_Counts_check_taken (hr.mono (by decide)) pass_def (@pa_cn _ _ _ _ _ (pv 1) pa_nil rfl)))
      (@pss_one _ _ _ (ps_if (pt_not (pt_chain op_le op_lt pe_int (pv 2) (pe_fld (pv 0) rfl))) (@pss_one _ _ _ (ps_raise T.x_NoAddress rfl (by rfl) T.m_NoAddress pass_def (@pa_cn _ _ _ _ _ pe_str pa_nil rfl))) pss_nil))), ?_⟩
  have t1 := T.cl_Store; have t2 := T.n_Store_tally; have t3 := T.n_Store_length; have t4 := T.n_Store_contents; have t5 := T.cl_Counts
  have SA := S
  obtain ⟨dx, t, l, d, kvs, S⟩ := S
  have h1 := S.ob
  obtain ⟨dxt, hT⟩ := S.cn.ob
  have hC := S.cn
  have r64 : R.cs.length ≤ 64 := by rw [List.length_map]; exact S.r64
  have nk := fldK_no l (m := "check_taken") (by decide +kernel)
  walk_at "go"
  refine ⟨fun u => ?_, fun u => k2 u⟩
  walk_at "go"
  refine iteD (fun c0 => ?_) (fun c0 => ?_)
  · walk_at "go"
    refine iteN (fun c1 => ?_) (fun c1 => ?_)
    · walk_at "go"
      exact k3 u fun z => c1 z.2
    · exact k1 u ⟨c0, c1⟩
  · walk_at "go"
    exact k3 u fun z => c0 z.1
theorem ok_Store_words {dvs : List V} (R : RawM K a.c_Store "words" "Store.words" s_Store_words ["self", "number"] dvs) (T : Txt K mg a)
    (h_Counts_check_taken : HasMe P w K mg base a.c_Counts 2 "check_taken" ["self", "number"] (spCheck a) []) :
    HasMe P w K mg base a.c_Store 3 "words" ["self", "number"] (spWords a) dvs := by
  refine R.ok sc_Store_words (fun vs H Q E h => ?_) (fun f cdv A outer s H vs Q E hr h => ?_)
  · obtain ⟨p, s, R, fp, n, rfl, _⟩ := h
    rfl
  obtain ⟨p, s, R, fp, n, rfl, S, k1, k2⟩ := h
  refine ⟨_, (@pss_cons _ _ _ _ _ (ps_expr (pe_me (pe_fld (pv 0) rfl) T.cl_Counts h_Counts_check_taken (hr.mono (by decide)) pass_def (@pa_cn _ _ _ _ _ (pv 1) pa_nil rfl)))
      (@pss_one _ _ _ (@ps_ret _ _ _ _ (pe_callTy call_list_of (by rfl) T.b_list PyProof.Rows.Boot.«list» (@pa_cn _ _ _ _ _ (pe_dget hr.u1 (pe_fld (pv 0) rfl) (pv 1) (fun _ _ => rfl)) pa_nil rfl))))), ?_⟩
  have t1 := T.cl_Store; have t2 := T.n_Store_tally; have t3 := T.n_Store_length; have t4 := T.n_Store_contents; have t5 := T.cl_Counts
  have SA := S
  obtain ⟨dx, t, l, d, kvs, S⟩ := S
  have h1 := S.ob
  obtain ⟨dxt, hT⟩ := S.cn.ob
  have hC := S.cn
  have r64 : R.cs.length ≤ 64 := by rw [List.length_map]; exact S.r64
  have nk := fldK_no l (m := "check_taken") (by decide +kernel)
  walk_at "go"
  refine ⟨fun u => ?_, fun u => k2 u⟩
  obtain ⟨x, hg, hx, _⟩ := S.at u
  walk_at "go"
  exact k1 u
theorem ok_Store_word {dvs : List V} (R : RawM K a.c_Store "word" "Store.word" s_Store_word ["self", "number", "place"] dvs) (T : Txt K mg a)
    (h_Store_check_place : HasMe P w K mg base a.c_Store 3 "check_place" ["self", "number", "place"] (spChkPlace a) []) :
    HasMe P w K mg base a.c_Store 4 "word" ["self", "number", "place"] (spWordAt a) dvs := by
  refine R.ok sc_Store_word (fun vs H Q E h => ?_) (fun f cdv A outer s H vs Q E hr h => ?_)
  · obtain ⟨p, s, R, fp, n, i, rfl, _⟩ := h
    rfl
  obtain ⟨p, s, R, fp, n, i, rfl, S, k1, k2, k3⟩ := h
  refine ⟨_, (@pss_cons _ _ _ _ _ (ps_expr (pe_me (pv 0) T.cl_Store h_Store_check_place (hr.mono (by decide)) pass_def (@pa_cn _ _ _ _ _ (pv 1) (@pa_cn _ _ _ _ _ (pv 2) pa_nil rfl) rfl)))
      (@pss_one _ _ _ (@ps_ret _ _ _ _ (@pe_ix _ _ _ _ _ _ _ ix_list (pe_dget hr.u1 (pe_fld (pv 0) rfl) (pv 1) (fun _ _ => rfl)) (pv 2) (fun _ _ => rfl))))), ?_⟩
  have t1 := T.cl_Store; have t2 := T.n_Store_tally; have t3 := T.n_Store_length; have t4 := T.n_Store_contents; have t5 := T.cl_Counts
  have SA := S
  obtain ⟨dx, t, l, d, kvs, S⟩ := S
  have h1 := S.ob
  obtain ⟨dxt, hT⟩ := S.cn.ob
  have hC := S.cn
  have r64 : R.cs.length ≤ 64 := by rw [List.length_map]; exact S.r64
  walk_at "go"
  refine ⟨fun u c => ?_, fun u => k2 u, fun u c => k3 u c⟩
  obtain ⟨x, hg, hx, _, hl, _⟩ := S.at u
  have ha := atI_getD (ns := rowOf R n) (n := i) c.1 (by rw [hl]; exact c.2)
  walk_at "go"
  exact k1 u c
theorem ok_Store_put {dvs : List V} (R : RawM K a.c_Store "put" "Store.put" s_Store_put ["self", "number", "place", "word"] dvs) (T : Txt K mg a)
    (h_Store_check_place : HasMe P w K mg base a.c_Store 3 "check_place" ["self", "number", "place"] (spChkPlace a) [])
    (h_check_word : HasFn P w K mg base 2 "check_word" ["thing"] (spChkWord a) []) :
    HasMe P w K mg base a.c_Store 4 "put" ["self", "number", "place", "word"] (spPut a) dvs := by
  refine R.ok sc_Store_put (fun vs H Q E h => ?_) (fun f cdv A outer s H vs Q E hr h => ?_)
  · obtain ⟨p, s, R, fp, n, i, v, rfl, _⟩ := h
    rfl
  obtain ⟨p, s, R, fp, n, i, v, rfl, S, k1, k2, k3, k4⟩ := h
  refine ⟨_, (@pss_cons _ _ _ _ _ (ps_expr (pe_me (pv 0) T.cl_Store h_Store_check_place (hr.mono (by decide)) pass_def (@pa_cn _ _ _ _ _ (pv 1) (@pa_cn _ _ _ _ _ (pv 2) pa_nil rfl) rfl)))
      (@pss_cons _ _ _ _ _ (ps_expr (pe_fn h_check_word (hr.mono (by decide)) (by rfl) pass_def (@pa_cn _ _ _ _ _ (pv 3) pa_nil rfl)))
      (@pss_one _ _ _ (ps_asg (pv 3) (pg_sub (pe_dget hr.u1 (pe_fld (pv 0) rfl) (pv 1) (fun _ _ => rfl)) (pv 2) set_list))))), ?_⟩
  have t1 := T.cl_Store; have t2 := T.n_Store_tally; have t3 := T.n_Store_length; have t4 := T.n_Store_contents; have t5 := T.cl_Counts
  have SA := S
  obtain ⟨dx, t, l, d, kvs, S⟩ := S
  have h1 := S.ob
  obtain ⟨dxt, hT⟩ := S.cn.ob
  have hC := S.cn
  have r64 : R.cs.length ≤ 64 := by rw [List.length_map]; exact S.r64
  walk_at "go"
  refine ⟨fun u c => ?_, fun u => k2 u, fun u c => k3 u c⟩
  walk_at "go"
  refine ⟨fun ok => ?_, fun bad => k4 u c bad⟩
  obtain ⟨x, hg, hx, hxf, hl, hxl, hv⟩ := S.at u
  have ha := ixN_map (ns := rowOf R n) (n := i) c.1 (by rw [hl]; exact c.2)
  walk_at "go"
  have e : ((rowOf R n).map V.int).set i.toNat (V.int v) = ((rowOf R n).set i.toNat v).map V.int := by rw [List.map_set]
  rw [e]
  exact k1 u c ok _ ⟨dx, t, l, d, kvs, S.put u hx hl hxl hv⟩ (Fr.put hxf)
theorem ok_Store_made {dvs : List V} (R : RawM K a.c_Store "made" "Store.made" s_Store_made ["self", "words", "count"] dvs) (T : Txt K mg a)
    (h_Store_check_words : HasMe P w K mg base a.c_Store 3 "check_words" ["self", "words"] (spChkWords a) [])
    (h_Counts_taken : HasMe P w K mg base a.c_Counts 2 "taken" ["self", "count"] (spTaken a) []) :
    HasMe P w K mg base a.c_Store 4 "made" ["self", "words", "count"] (spMade a) dvs := by
  refine R.ok sc_Store_made (fun vs H Q E h => ?_) (fun f cdv A outer s H vs Q E hr h => ?_)
  · obtain ⟨p, w, s, R, fp, ws, c, rfl, _⟩ := h
    rfl
  obtain ⟨p, w, s, R, fp, ws, c, rfl, S, hw, hwf, hc, k1, k2, k3⟩ := h
  refine ⟨_, (@pss_cons _ _ _ _ _ (ps_expr (pe_me (pv 0) T.cl_Store h_Store_check_words (hr.mono (by decide)) pass_def (@pa_cn _ _ _ _ _ (pv 1) pa_nil rfl)))
      (@pss_cons _ _ _ _ _ (@ps_set _ _ 3 _ _ _ _ sc_Store_made.nd rfl (by first | exact Or.inl rfl | exact Or.inr rfl) (pe_me (pe_fld (pv 0) rfl) T.cl_Counts h_Counts_taken (hr.mono (by decide)) pass_def (@pa_cn _ _ _ _ _ (pv 2) pa_nil rfl)) (by rfl) (by first | exact Or.inl rfl | exact Or.inr rfl))
      (@pss_cons _ _ _ _ _ (@ps_dput _ _ _ _ _ _ _ _ _ hr.u1 (pe_fld (pv 0) rfl) (pv 3) (pe_callTy call_list_of (by rfl) T.b_list PyProof.Rows.Boot.«list» (@pa_cn _ _ _ _ _ (pv 1) pa_nil rfl)) (by rfl))
      (@pss_one _ _ _ (@ps_ret _ _ _ _ (pv 3)))))), ?_⟩
  have t1 := T.cl_Store; have t2 := T.n_Store_tally; have t3 := T.n_Store_length; have t4 := T.n_Store_contents; have t5 := T.cl_Counts
  have SA := S
  obtain ⟨dx, t, l, d, kvs, S⟩ := S
  have h1 := S.ob
  obtain ⟨dxt, hT⟩ := S.cn.ob
  have hC := S.cn
  have r64 : R.cs.length ≤ 64 := by rw [List.length_map]; exact S.r64
  have nk := fldK_no l (m := "taken") (by decide +kernel)
  walk_at "go"
  refine ⟨fun g => ?_, fun g => k3 g⟩
  walk_at "go"
  refine ⟨fun h0 => ?_, fun h0 => k2 g h0⟩
  have nwl : w ≠ l := fun z => hwf (by rw [z]; exact S.fpl)
  have npl : p ≠ l := ne_of h1 hC.ls (by intro z; cases z)
  have ndl : d ≠ l := ne_of S.dc hC.ls (by intro z; cases z)
  have hp1 : upd H l (.lst ((R.cs.set (R.cs.idxOf 0) c).map V.int)) p = _ := (upd_ne npl).trans h1
  have hd1 : upd H l (.lst ((R.cs.set (R.cs.idxOf 0) c).map V.int)) d = _ := (upd_ne ndl).trans S.dc
  walk_at "go"
  intro q hq
  obtain ⟨SM, FM, hz⟩ := S.made h0 hc g.1 hq
  have hdd := same_upd (u := .lst (ws.map V.int)) hq _ _ hd1
  have dp := DPut.k (k := Sum.inl ((R.cs.idxOf 0 : Nat) : Int)) (v := V.ref q) hdd hz
  walk_at "go"
  exact k1 g h0 _ (q :: fp) ⟨dx, t, l, d, _, SM⟩ FM fun b hb => List.mem_cons_of_mem _ hb
end
end K30

set_option maxHeartbeats 4000000
namespace K30
open PySem L2
theorem valV_drop [DecidableEq κ] : ∀ (kvs : List (κ × V)) (k j : κ), valV (dropK kvs k) j = if j = k then none else valV kvs j
  | [], k, j => by unfold valV dropK; simp
  | p :: r, k, j => by
    have ih := valV_drop r k j
    by_cases e : p.1 = k
    · rw [dropK_pos e, ih]
      by_cases q : j = k
      · rw [if_pos q, if_pos q]
      · rw [if_neg q, if_neg q]
        unfold valV
        rw [List.find?_cons_of_neg]
        simpa using fun z : p.1 = j => q (z.symm.trans e)
    · rw [dropK_neg e]
      by_cases z : p.1 = j
      · subst z
        rw [if_neg e]
        unfold valV
        rw [List.find?_cons_of_pos (by simp), List.find?_cons_of_pos (by simp)]
      · have e1 : valV (p :: dropK r k) j = valV (dropK r k) j := by
          unfold valV; rw [List.find?_cons_of_neg (by simpa using z)]
        have e2 : valV (p :: r) j = valV r j := by
          unfold valV; rw [List.find?_cons_of_neg (by simpa using z)]
        rw [e1, e2, ih]
theorem valV_mem [DecidableEq κ] {kvs : List (κ × V)} {k : κ} {v : V} (h : valV kvs k = some v) : k ∈ kvs.map (·.1) := by
  unfold valV at h
  cases e : kvs.find? fun kv => decide (kv.1 = k) with
  | none => rw [e] at h; cases h
  | some p =>
    have h1 := List.find?_some e
    have h2 := List.mem_of_find?_eq_some e
    have h3 : p.1 = k := by simpa using h1
    exact List.mem_map.mpr ⟨p, h2, h3⟩
section
variable {a : Adr} {H : Hp} {p dx t l d : Addr} {s : Int} {R : Rooms} {kvs : List (Key × V)} {fp : List Addr}
theorem StIn.turn (S : StIn a H p dx t l d s R kvs fp) {n c : Int} (u : Used R n) (hc : c ≠ 0) : StIn a (upd H l (.lst ((R.cs.set n.toNat c).map V.int))) p dx t l d s (R.set n.toNat (c, rowOf R n)) kvs fp := by
  obtain ⟨x, g1, g2, g3, g4, g5, g6⟩ := S.at u
  obtain ⟨dxt, hT⟩ := S.cn.ob
  have hls := S.cn.ls
  have npl : p ≠ l := ne_of S.ob hls (by intro z; cases z)
  have ntl : t ≠ l := ne_of hT hls (by intro z; cases z)
  have ndl : d ≠ l := ne_of S.dc hls (by intro z; cases z)
  obtain ⟨⟨n0, n1⟩, n2⟩ := u
  have hk : n.toNat < R.length := by rw [List.length_map] at n1; omega
  have en : ((n.toNat : Nat) : Int) = n := by omega
  have hcs : R.cs[n.toNat]? = some (R.cs.getD n.toNat 0) := by
    have : n.toNat < R.cs.length := by rw [List.length_map]; exact hk
    rw [List.getD_eq_getElem?_getD, List.getElem?_eq_getElem this]; rfl
  exact { S with
    ob := by rw [upd_ne npl]; exact S.ob
    cn := ⟨⟨dxt, by rw [upd_ne ntl]; exact hT⟩, by rw [upd_same, Rooms.cs_set]⟩
    dc := by rw [upd_ne ndl]; exact S.dc
    us := fun j c' row e1 e2 => by
      by_cases q : n.toNat = j
      · subst q
        rw [List.getElem?_set_self hk] at e1
        cases e1
        exact ⟨x, by rw [en]; exact g6, by rw [upd_ne g5]; exact g2, g3, g4, g5⟩
      · rw [List.getElem?_set_ne q] at e1
        obtain ⟨y, z1, z2, z3, z4, z5⟩ := S.us j c' row e1 e2
        exact ⟨y, z1, by rw [upd_ne z5]; exact z2, z3, z4, z5⟩
    fr := fun j row e1 => by
      by_cases q : n.toNat = j
      · subst q
        rw [List.getElem?_set_self hk] at e1
        have e1 := Option.some.inj e1
        injection e1 with e1 _
        exact absurd e1 hc
      · rw [List.getElem?_set_ne q] at e1
        exact S.fr j row e1
    apq := fun y hy k h => by
      have nyx : y ≠ l := fun z => by rw [z, upd_same] at hy; cases hy
      rw [upd_ne nyx] at hy
      exact S.apq y hy k h
    ln := by
      rw [Rooms.cs_set, List.length_set]
      have q1 := cnt_free n2 hcs
      have q2 := cnt_set hc (L := R.cs.set n.toNat 0) (k := n.toNat) (List.getElem?_set_self (by rw [List.length_map]; exact hk))
      rw [List.set_set] at q2
      have := S.ln
      omega
    lv := fun b hb => by
      obtain ⟨o, e⟩ := S.lv b hb
      by_cases q : b = l
      · exact ⟨_, by rw [q]; exact upd_same⟩
      · exact ⟨o, by rw [upd_ne q]; exact e⟩
    r64 := by rw [List.length_set]; exact S.r64 }
theorem StIn.drop (S : StIn a H p dx t l d s R kvs fp) {n : Int} {row : List Int} (u : Used R n) : StIn a (upd (upd H l (.lst ((R.cs.set n.toNat 0).map V.int))) d (.dK (dropK kvs (.inl n)))) p dx t l d s (R.set n.toNat (0, row)) (dropK kvs (.inl n)) fp := by
  obtain ⟨x, g1, g2, g3, g4, g5, g6⟩ := S.at u
  obtain ⟨dxt, hT⟩ := S.cn.ob
  have hls := S.cn.ls
  have npl : p ≠ l := ne_of S.ob hls (by intro z; cases z)
  have ntl : t ≠ l := ne_of hT hls (by intro z; cases z)
  have ndl : d ≠ l := ne_of S.dc hls (by intro z; cases z)
  have npd : p ≠ d := ne_of S.ob S.dc (by intro z; cases z)
  have ntd : t ≠ d := ne_of hT S.dc (by intro z; cases z)
  obtain ⟨⟨n0, n1⟩, n2⟩ := u
  have hk : n.toNat < R.length := by rw [List.length_map] at n1; omega
  have en : ((n.toNat : Nat) : Int) = n := by omega
  have hcs : R.cs[n.toNat]? = some (R.cs.getD n.toNat 0) := by
    have : n.toNat < R.cs.length := by rw [List.length_map]; exact hk
    rw [List.getD_eq_getElem?_getD, List.getElem?_eq_getElem this]; rfl
  have old : ∀ k v, valV (dropK kvs (.inl n)) k = some v → valV kvs k = some v := fun k v h => by
    rw [valV_drop] at h
    split at h
    · cases h
    · exact h
  exact { S with
    ob := by rw [upd_ne npd, upd_ne npl]; exact S.ob
    cn := ⟨⟨dxt, by rw [upd_ne ntd, upd_ne ntl]; exact hT⟩, by rw [upd_ne ndl.symm, upd_same, Rooms.cs_set]⟩
    dc := upd_same
    us := fun j c' row e1 e2 => by
      by_cases q : n.toNat = j
      · subst q
        rw [List.getElem?_set_self hk] at e1
        cases e1
        exact absurd rfl e2
      · rw [List.getElem?_set_ne q] at e1
        obtain ⟨y, z1, z2, z3, z4, z5⟩ := S.us j c' row e1 e2
        have nyd : y ≠ d := ne_of z2 S.dc (by intro z; cases z)
        exact ⟨y, by rw [valV_drop, if_neg (fun w => q (by injection w with w; omega))]; exact z1, by rw [upd_ne nyd, upd_ne z5]; exact z2, z3, z4, z5⟩
    fr := fun j row e1 => by
      by_cases q : n.toNat = j
      · subst q
        rw [valV_drop, if_pos (by rw [en])]
      · rw [List.getElem?_set_ne q] at e1
        rw [valV_drop]
        split
        · rfl
        · exact S.fr j row e1
    ap := fun i j x h1 h2 => S.ap i j x (old _ _ h1) (old _ _ h2)
    inf := fun k y h => S.inf k y (old _ _ h)
    apq := fun y hy k h => by
      have nyd : y ≠ d := fun z => by rw [z, upd_same] at hy; cases hy
      have nyl : y ≠ l := fun z => by rw [z, upd_ne ndl.symm, upd_same] at hy; cases hy
      rw [upd_ne nyd, upd_ne nyl] at hy
      exact S.apq y hy k (old _ _ h)
    nd := nd_dropK S.nd
    ln := by
      rw [Rooms.cs_set, List.length_set]
      have q1 := cnt_free n2 hcs
      have q2 := dropK_len S.nd (valV_mem g6)
      have := S.ln
      omega
    lv := fun b hb => by
      obtain ⟨o, e⟩ := S.lv b hb
      by_cases q : b = d
      · exact ⟨_, by rw [q]; exact upd_same⟩
      · rw [upd_ne q]
        by_cases q : b = l
        · exact ⟨_, by rw [q]; exact upd_same⟩
        · exact ⟨o, by rw [upd_ne q]; exact e⟩
    r64 := by rw [List.length_set]; exact S.r64 }
end
theorem StIn.less {a : Adr} {H : Hp} {p dx t l d x : Addr} {s : Int} {R : Rooms} {kvs : List (Key × V)} {fp : List Addr} (S : StIn a H p dx t l d s R kvs fp) (no : ∀ k : Key, ¬ valV kvs k = some (.ref x)) (h1 : p ≠ x) (h2 : t ≠ x) (h3 : l ≠ x) (h4 : d ≠ x) : StIn a H p dx t l d s R kvs (fp.filter fun b => decide (b ≠ x)) := by
  have mem : ∀ {b : Addr}, b ∈ fp → b ≠ x → b ∈ fp.filter fun b => decide (b ≠ x) := fun {b} h n => List.mem_filter.mpr ⟨h, by simpa using n⟩
  exact { S with
    us := fun i c row e hc => by
      obtain ⟨y, z1, z2, z3, z4⟩ := S.us i c row e hc
      exact ⟨y, z1, z2, mem z3 (fun w => no _ (by rw [← w]; exact z1)), z4⟩
    inf := fun k y h => mem (S.inf k y h) (fun w => no k (by rw [← w]; exact h))
    fpp := mem S.fpp h1
    fpt := mem S.fpt h2
    fpl := mem S.fpl h3
    fpd := mem S.fpd h4
    lv := fun b hb => S.lv b (List.mem_filter.mp hb).1 }
def cntOf (R : Rooms) (n : Int) : Int := R.cs.getD n.toNat 0
def spFreed (a : Adr) : Sp := fun vs H Q E => ∃ p l ns n, vs = [.ref p, .int n] ∧ CntAt a.c_Counts H p l ns ∧ ns.length ≤ 64 ∧
  ((0 ≤ n ∧ n < ns.length) ∧ ns.getD n.toNat 0 ≠ 0 → Q (.int (ns.getD n.toNat 0)) (upd H l (.lst ((ns.set n.toNat 0).map V.int)))) ∧ (¬ ((0 ≤ n ∧ n < ns.length) ∧ ns.getD n.toNat 0 ≠ 0) → E (.ref a.c_NoNumber) none H)
def spStMore (a : Adr) : Sp := fun vs H Q E => ∃ (p : Addr) (s : Int) (R : Rooms) (fp : List Addr) (n : Int), vs = [.ref p, .int n] ∧ StAt a H p s R fp ∧ (∀ x ∈ R.cs, 0 ≤ x) ∧
  (Used R n → ∀ H', StAt a H' p s (R.set n.toNat (cntOf R n + 1, rowOf R n)) fp → Fr fp fp H H' → Q (.int (cntOf R n + 1)) H') ∧ (¬ Used R n → E (.ref a.c_NoNumber) none H)
def spStLess (a : Adr) : Sp := fun vs H Q E => ∃ (p : Addr) (s : Int) (R : Rooms) (fp : List Addr) (n : Int), vs = [.ref p, .int n] ∧ StAt a H p s R fp ∧
  (Used R n → ∀ H', StAt a H' p s (R.set n.toNat (cntOf R n - 1, rowOf R n)) fp → Fr fp fp H H' → Q (.int (cntOf R n - 1)) H') ∧ (¬ Used R n → E (.ref a.c_NoNumber) none H)
def spGone (a : Adr) : Sp := fun vs H Q E => ∃ (p : Addr) (s : Int) (R : Rooms) (fp : List Addr) (n : Int), vs = [.ref p, .int n] ∧ StAt a H p s R fp ∧
  (Used R n → ∀ T x H', H' T = some (.tup [.ref x, .int (cntOf R n)]) → H' x = some (.lst ((rowOf R n).map V.int)) → x ∈ fp → H T = none → StAt a H' p s (R.set n.toNat (0, rowOf R n)) fp → StAt a H' p s (R.set n.toNat (0, rowOf R n)) (fp.filter fun b => decide (b ≠ x)) → Fr fp fp H H' → Q (.ref T) H') ∧ (¬ Used R n → E (.ref a.c_NoNumber) none H)
def spStCounts (a : Adr) : Sp := fun vs H Q _ => ∃ (p : Addr) (s : Int) (R : Rooms) (fp : List Addr), vs = [.ref p] ∧ StAt a H p s R fp ∧ ∀ q, H q = none → Q (.ref q) (upd H q (.lst (R.cs.map V.int)))
def spStCount (a : Adr) : Sp := fun vs H Q E => ∃ (p : Addr) (s : Int) (R : Rooms) (fp : List Addr) (n : Int), vs = [.ref p, .int n] ∧ StAt a H p s R fp ∧ (Used R n → Q (.int (cntOf R n)) H) ∧ (¬ Used R n → E (.ref a.c_NoNumber) none H)
def spStFree (a : Adr) : Sp := fun vs H Q _ => ∃ (p : Addr) (s : Int) (R : Rooms) (fp : List Addr), vs = [.ref p] ∧ StAt a H p s R fp ∧ Q (.int (R.cs.count 0 : Nat)) H
section
variable {P : Program} {w : World} {K : PySem.W.Frag} {mg : Str → Option Value} {base : Heap} {a : Adr}
theorem ok_Counts_freed {dvs : List V} (R : RawM K a.c_Counts "freed" "Counts.freed" s_Counts_freed ["self", "number"] dvs) (T : Txt K mg a)
    (h_Counts_check_taken : HasMe P w K mg base a.c_Counts 2 "check_taken" ["self", "number"] (spCheck a) []) :
    HasMe P w K mg base a.c_Counts 3 "freed" ["self", "number"] (spFreed a) dvs := by
  refine R.ok sc_Counts_freed (fun vs H Q E h => ?_) (fun f cdv A outer s H vs Q E hr h => ?_)
  · obtain ⟨p, l, ns, n, rfl, _⟩ := h
    rfl
  obtain ⟨p, l, ns, n, rfl, S, hl, k1, k2⟩ := h
  refine ⟨_, (@pss_cons _ _ _ _ _ (ps_expr (pe_me (pv 0) T.cl_Counts h_Counts_check_taken (hr.mono (by decide)) pass_def (@pa_cn _ _ _ _ _ (pv 1) pa_nil rfl)))
      (@pss_cons _ _ _ _ _ (@ps_set _ _ 2 _ _ _ _ sc_Counts_freed.nd rfl (by first | exact Or.inl rfl | exact Or.inr rfl) (@pe_ix _ _ _ _ _ _ _ ix_list (pe_fld (pv 0) rfl) (pv 1) (fun _ _ => rfl)) (by rfl) (by first | exact Or.inl rfl | exact Or.inr rfl))
      (@pss_cons _ _ _ _ _ (ps_asg pe_int (pg_sub (pe_fld (pv 0) rfl) (pv 1) set_list))
      (@pss_one _ _ _ (@ps_ret _ _ _ _ (pv 2)))))), ?_⟩
  obtain ⟨⟨dx, h1⟩, h2⟩ := id S
  have t1 := T.cl_Counts; have t2 := T.n_Counts_kept
  have f1 := fldK_kept l
  have f2 := fldK_no l (m := "check_taken") (by decide +kernel)
  walk_at "go"
  refine ⟨fun c => ?_, fun c => k2 c⟩
  obtain ⟨⟨c0, c1⟩, c2⟩ := id c
  have g1 := atI_getD (ns := ns) (n := n) c0 c1
  have g2 := ixN_map (ns := ns) (n := n) c0 c1
  walk_at "go"
  show Q _ (upd H l (.lst ((ns.map V.int).set n.toNat (V.int 0))))
  rw [map_set]
  exact k1 c
theorem ok_Store_more {dvs : List V} (R : RawM K a.c_Store "more" "Store.more" s_Store_more ["self", "number"] dvs) (T : Txt K mg a)
    (h_Counts_more : HasMe P w K mg base a.c_Counts 3 "more" ["self", "number"] (spTurn a 1) []) :
    HasMe P w K mg base a.c_Store 4 "more" ["self", "number"] (spStMore a) dvs := by
  refine R.ok sc_Store_more (fun vs H Q E h => ?_) (fun f cdv A outer s H vs Q E hr h => ?_)
  · obtain ⟨p, s, R, fp, n, rfl, _⟩ := h
    rfl
  obtain ⟨p, s, R, fp, n, rfl, S, pos, k1, k2⟩ := h
  refine ⟨_, (@pss_one _ _ _ (@ps_ret _ _ _ _ (pe_me (pe_fld (pv 0) rfl) T.cl_Counts h_Counts_more (hr.mono (by decide)) pass_def (@pa_cn _ _ _ _ _ (pv 1) pa_nil rfl)))), ?_⟩
  have t1 := T.cl_Store; have t2 := T.n_Store_tally; have t3 := T.n_Store_length; have t4 := T.n_Store_contents; have t5 := T.cl_Counts
  have SA := S
  obtain ⟨dx, t, l, d, kvs, S⟩ := S
  have h1 := S.ob
  obtain ⟨dxt, hT⟩ := S.cn.ob
  have hC := S.cn
  have r64 : R.cs.length ≤ 64 := by rw [List.length_map]; exact S.r64
  have nk := fldK_no l (m := "more") (by decide +kernel)
  walk_at "go"
  refine ⟨fun u => ?_, fun u => k2 u⟩
  have nz : R.cs.getD n.toNat 0 + 1 ≠ 0 := by
    have hn : n.toNat < R.cs.length := by have := u.1.1; have := u.1.2; omega
    have : 0 ≤ R.cs.getD n.toNat 0 := by
      rw [List.getD_eq_getElem?_getD, List.getElem?_eq_getElem hn]; exact pos _ (List.getElem_mem hn)
    omega
  exact k1 u _ ⟨dx, t, l, d, kvs, S.turn u nz⟩ (Fr.put S.fpl)
theorem ok_Store_less {dvs : List V} (R : RawM K a.c_Store "less" "Store.less" s_Store_less ["self", "number"] dvs) (T : Txt K mg a)
    (h_Counts_less : HasMe P w K mg base a.c_Counts 3 "less" ["self", "number"] (spTurn a (-1)) []) :
    HasMe P w K mg base a.c_Store 4 "less" ["self", "number"] (spStLess a) dvs := by
  refine R.ok sc_Store_less (fun vs H Q E h => ?_) (fun f cdv A outer s H vs Q E hr h => ?_)
  · obtain ⟨p, s, R, fp, n, rfl, _⟩ := h
    rfl
  obtain ⟨p, s, R, fp, n, rfl, S, k1, k2⟩ := h
  refine ⟨_, (@pss_cons _ _ _ _ _ (@ps_set _ _ 2 _ _ _ _ sc_Store_less.nd rfl (by first | exact Or.inl rfl | exact Or.inr rfl) (pe_me (pe_fld (pv 0) rfl) T.cl_Counts h_Counts_less (hr.mono (by decide)) pass_def (@pa_cn _ _ _ _ _ (pv 1) pa_nil rfl)) (by rfl) (by first | exact Or.inl rfl | exact Or.inr rfl))
      (@pss_cons _ _ _ _ _ (ps_if (pt_cmpR op_eq (pv 2) pe_int (nomark _)) (@pss_one _ _ _ (ps_expr (pe_dpop1 (pe_fld (pv 0) rfl) (pv 1) ⟨rfl, rfl, rfl, rfl⟩))) pss_nil)
      (@pss_one _ _ _ (@ps_ret _ _ _ _ (pv 2))))), ?_⟩
  have t1 := T.cl_Store; have t2 := T.n_Store_tally; have t3 := T.n_Store_length; have t4 := T.n_Store_contents; have t5 := T.cl_Counts
  have SA := S
  obtain ⟨dx, t, l, d, kvs, S⟩ := S
  have h1 := S.ob
  obtain ⟨dxt, hT⟩ := S.cn.ob
  have hC := S.cn
  have r64 : R.cs.length ≤ 64 := by rw [List.length_map]; exact S.r64
  have nk := fldK_no l (m := "less") (by decide +kernel)
  walk_at "go"
  refine ⟨fun u => ?_, fun u => k2 u⟩
  have npl : p ≠ l := ne_of h1 hC.ls (by intro z; cases z)
  have ndl : d ≠ l := ne_of S.dc hC.ls (by intro z; cases z)
  have ec : R.cs.getD n.toNat 0 + -1 = cntOf R n - 1 := rfl
  rw [ec]
  have hp1 : upd H l (.lst ((R.cs.set n.toNat (cntOf R n - 1)).map V.int)) p = _ := (upd_ne npl).trans h1
  have hd1 : upd H l (.lst ((R.cs.set n.toNat (cntOf R n - 1)).map V.int)) d = _ := (upd_ne ndl).trans S.dc
  have id1 : IsD (upd H l (.lst ((R.cs.set n.toNat (cntOf R n - 1)).map V.int))) d := .inl ⟨kvs, Rd.of hd1⟩
  obtain ⟨x, g1, g2, g3, g4, g5, g6⟩ := S.at u
  have kn : V.int n = kV (Sum.inl n : Key) := rfl
  walk_at "go"
  refine iteI (fun z => ?_) (fun z => ?_)
  · walk_at "go"
    have D := S.drop (row := rowOf R n) u
    have F : Fr fp fp H (upd (upd H l (.lst ((R.cs.set n.toNat 0).map V.int))) d (.dK (dropK kvs (.inl n)))) := (Fr.put S.fpl).trans (Fr.put S.fpd)
    rw [z] at k1 ⊢
    exact k1 u _ ⟨dx, t, l, d, _, D⟩ F
  · walk_at "go"
    exact k1 u _ ⟨dx, t, l, d, kvs, S.turn u z⟩ (Fr.put S.fpl)
theorem ok_Store_gone {dvs : List V} (R : RawM K a.c_Store "gone" "Store.gone" s_Store_gone ["self", "number"] dvs) (T : Txt K mg a)
    (h_Counts_freed : HasMe P w K mg base a.c_Counts 3 "freed" ["self", "number"] (spFreed a) []) :
    HasMe P w K mg base a.c_Store 4 "gone" ["self", "number"] (spGone a) dvs := by
  refine R.ok sc_Store_gone (fun vs H Q E h => ?_) (fun f cdv A outer s H vs Q E hr h => ?_)
  · obtain ⟨p, s, R, fp, n, rfl, _⟩ := h
    rfl
  obtain ⟨p, s, R, fp, n, rfl, S, k1, k2⟩ := h
  refine ⟨_, (@pss_cons _ _ _ _ _ (@ps_set _ _ 2 _ _ _ _ sc_Store_gone.nd rfl (by first | exact Or.inl rfl | exact Or.inr rfl) (pe_me (pe_fld (pv 0) rfl) T.cl_Counts h_Counts_freed (hr.mono (by decide)) pass_def (@pa_cn _ _ _ _ _ (pv 1) pa_nil rfl)) (by rfl) (by first | exact Or.inl rfl | exact Or.inr rfl))
      (@pss_one _ _ _ (@ps_ret _ _ _ _ (@pe_tup _ _ _ _ _ (@pa_cn _ _ _ _ _ (pe_dpop1 (pe_fld (pv 0) rfl) (pv 1) ⟨rfl, rfl, rfl, rfl⟩) (@pa_cn _ _ _ _ _ (pv 2) pa_nil rfl) rfl))))), ?_⟩
  have t1 := T.cl_Store; have t2 := T.n_Store_tally; have t3 := T.n_Store_length; have t4 := T.n_Store_contents; have t5 := T.cl_Counts
  have SA := S
  obtain ⟨dx, t, l, d, kvs, S⟩ := S
  have h1 := S.ob
  obtain ⟨dxt, hT⟩ := S.cn.ob
  have hC := S.cn
  have r64 : R.cs.length ≤ 64 := by rw [List.length_map]; exact S.r64
  have nk := fldK_no l (m := "freed") (by decide +kernel)
  walk_at "go"
  refine ⟨fun u => ?_, fun u => k2 u⟩
  have npl : p ≠ l := ne_of h1 hC.ls (by intro z; cases z)
  have ndl : d ≠ l := ne_of S.dc hC.ls (by intro z; cases z)
  have hp1 : upd H l (.lst ((R.cs.set n.toNat 0).map V.int)) p = _ := (upd_ne npl).trans h1
  have hd1 : upd H l (.lst ((R.cs.set n.toNat 0).map V.int)) d = _ := (upd_ne ndl).trans S.dc
  have id1 : IsD (upd H l (.lst ((R.cs.set n.toNat 0).map V.int))) d := .inl ⟨kvs, Rd.of hd1⟩
  obtain ⟨x, g1, g2, g3, g4, g5, g6⟩ := S.at u
  have nxd : x ≠ d := ne_of g2 S.dc (by intro z; cases z)
  have kn : V.int n = kV (Sum.inl n : Key) := rfl
  walk_at "go"
  intro T hT'
  have D : StAt a _ p s _ fp := ⟨dx, t, l, d, _, S.drop (row := rowOf R n) u⟩
  have F : Fr fp fp H (upd (upd H l (.lst ((R.cs.set n.toNat 0).map V.int))) d (.dK (dropK kvs (.inl n)))) := (Fr.put S.fpl).trans (Fr.put S.fpd)
  have hx2 : upd (upd H l (.lst ((R.cs.set n.toNat 0).map V.int))) d (.dK (dropK kvs (.inl n))) x = _ := (upd_ne nxd).trans ((upd_ne g5).trans g2)
  have hT0 : H T = none := by
    cases e : H T with
    | none => rfl
    | some o =>
      by_cases nb : T ∈ fp
      · obtain ⟨o', e'⟩ : ∃ o', upd (upd H l (.lst ((R.cs.set n.toNat 0).map V.int))) d (.dK (dropK kvs (.inl n))) T = some o' := by
          obtain ⟨_, _, _, _, _, SS⟩ := D; exact SS.lv T nb
        rw [e'] at hT'; cases hT'
      · rw [F.1 T o e nb] at hT'; cases hT'
  have D2 : StAt a _ p s _ (fp.filter fun b => decide (b ≠ x)) := ⟨dx, t, l, d, _, (S.drop (row := rowOf R n) u).less (fun j w => by
    rw [valV_drop] at w
    split at w
    · cases w
    · next c => exact c (S.ap j (.inl n) x w g6)) (fun w => by rw [← w, h1] at g2; cases g2) (fun w => by rw [← w, hT] at g2; cases g2) (fun w => g5 w.symm) nxd.symm⟩
  exact k1 u T x _ upd_same (same_upd hT' _ _ hx2) g3 hT0 (D.same (same_upd hT')) (D2.same (same_upd hT')) (F.trans (Fr.same (same_upd hT')))
theorem ok_Store_count {dvs : List V} (R : RawM K a.c_Store "count" "Store.count" s_Store_count ["self", "number"] dvs) (T : Txt K mg a)
    (h_Counts_check_taken : HasMe P w K mg base a.c_Counts 2 "check_taken" ["self", "number"] (spCheck a) [])
    (h_Counts_of : HasMe P w K mg base a.c_Counts 1 "of" ["self", "number"] (spOf a) []) :
    HasMe P w K mg base a.c_Store 3 "count" ["self", "number"] (spStCount a) dvs := by
  refine R.ok sc_Store_count (fun vs H Q E h => ?_) (fun f cdv A outer s H vs Q E hr h => ?_)
  · obtain ⟨p, s, R, fp, n, rfl, _⟩ := h
    rfl
  obtain ⟨p, s, R, fp, n, rfl, S, k1, k2⟩ := h
  refine ⟨_, (@pss_cons _ _ _ _ _ (ps_expr (pe_me (pe_fld (pv 0) rfl) T.cl_Counts h_Counts_check_taken (hr.mono (by decide)) pass_def (@pa_cn _ _ _ _ _ (pv 1) pa_nil rfl)))
      (@pss_one _ _ _ (@ps_ret _ _ _ _ (pe_me (pe_fld (pv 0) rfl) T.cl_Counts h_Counts_of (hr.mono (by decide)) pass_def (@pa_cn _ _ _ _ _ (pv 1) pa_nil rfl))))), ?_⟩
  have t1 := T.cl_Store; have t2 := T.n_Store_tally; have t5 := T.cl_Counts
  obtain ⟨dx, t, l, d, kvs, S⟩ := S
  have h1 := S.ob
  obtain ⟨dxt, hT⟩ := S.cn.ob
  have hC := S.cn
  have r64 : R.cs.length ≤ 64 := by rw [List.length_map]; exact S.r64
  have nk := fldK_no l (m := "check_taken") (by decide +kernel)
  have nk2 := fldK_no l (m := "of") (by decide +kernel)
  walk_at "go"
  refine ⟨fun u => ?_, fun u => k2 u⟩
  walk_at "go"
  exact ⟨fun _ => k1 u, fun z => absurd u.1 z⟩
theorem ok_Store_counts {dvs : List V} (R : RawM K a.c_Store "counts" "Store.counts" s_Store_counts ["self"] dvs) (T : Txt K mg a)
    (h_Counts_told : HasMe P w K mg base a.c_Counts 1 "told" ["self"] (spTold a) []) :
    HasMe P w K mg base a.c_Store 2 "counts" ["self"] (spStCounts a) dvs := by
  refine R.ok sc_Store_counts (fun vs H Q E h => ?_) (fun f cdv A outer s H vs Q E hr h => ?_)
  · obtain ⟨p, s, R, fp, rfl, _⟩ := h
    rfl
  obtain ⟨p, s, R, fp, rfl, S, k⟩ := h
  refine ⟨_, (@pss_one _ _ _ (@ps_ret _ _ _ _ (pe_me0 (pe_fld (pv 0) rfl) T.cl_Counts h_Counts_told (hr.mono (by decide)) pass_def))), ?_⟩
  have t1 := T.cl_Store; have t2 := T.n_Store_tally; have t3 := T.n_Store_length; have t4 := T.n_Store_contents; have t5 := T.cl_Counts
  obtain ⟨dx, t, l, d, kvs, S⟩ := S
  have h1 := S.ob
  obtain ⟨dxt, hT⟩ := S.cn.ob
  have hC := S.cn
  have nk := fldK_no l (m := "told") (by decide +kernel)
  walk_at "go"
  exact k
theorem ok_Store_free {dvs : List V} (R : RawM K a.c_Store "free" "Store.free" s_Store_free ["self"] dvs) (T : Txt K mg a)
    (h_Counts_free : HasMe P w K mg base a.c_Counts 1 "free" ["self"] (spFree a) []) :
    HasMe P w K mg base a.c_Store 2 "free" ["self"] (spStFree a) dvs := by
  refine R.ok sc_Store_free (fun vs H Q E h => ?_) (fun f cdv A outer s H vs Q E hr h => ?_)
  · obtain ⟨p, s, R, fp, rfl, _⟩ := h
    rfl
  obtain ⟨p, s, R, fp, rfl, S, k⟩ := h
  refine ⟨_, (@pss_one _ _ _ (@ps_ret _ _ _ _ (pe_me0 (pe_fld (pv 0) rfl) T.cl_Counts h_Counts_free (hr.mono (by decide)) pass_def))), ?_⟩
  have t1 := T.cl_Store; have t2 := T.n_Store_tally; have t3 := T.n_Store_length; have t4 := T.n_Store_contents; have t5 := T.cl_Counts
  obtain ⟨dx, t, l, d, kvs, S⟩ := S
  have h1 := S.ob
  obtain ⟨dxt, hT⟩ := S.cn.ob
  have hC := S.cn
  have nk := fldK_no l (m := "free") (by decide +kernel)
  walk_at "go"
  exact k
end
abbrev fldH (m : Addr) (s : Nat) : List (Str × V) := [("marked", .ref m), ("standing", .int s)]
structure HdIn (a : Adr) (H : Hp) (p dx m : Addr) (bs : List Bool) (s : Nat) (fp : List Addr) : Prop where
  ob : H p = some (.ins a.c_Hand dx (fldH m s))
  ls : H m = some (.lst (bs.map V.bl))
  lt : s < bs.length
  le : bs.length ≤ 64
  fe : fp = [p, m]
theorem HdIn.fpp {a : Adr} {H : Hp} {p dx m : Addr} {bs : List Bool} {s : Nat} {fp : List Addr} (S : HdIn a H p dx m bs s fp) : p ∈ fp := by rw [S.fe]; simp
theorem HdIn.fpm {a : Adr} {H : Hp} {p dx m : Addr} {bs : List Bool} {s : Nat} {fp : List Addr} (S : HdIn a H p dx m bs s fp) : m ∈ fp := by rw [S.fe]; simp
def HdAt (a : Adr) (H : Hp) (p : Addr) (bs : List Bool) (s : Nat) (fp : List Addr) : Prop := ∃ dx m, HdIn a H p dx m bs s fp
theorem HdIn.ne {a : Adr} {H : Hp} {p dx m : Addr} {bs : List Bool} {s : Nat} {fp : List Addr} (S : HdIn a H p dx m bs s fp) : p ≠ m := ne_of S.ob S.ls (by intro z; cases z)
theorem HdAt.eqv {a : Adr} {H H' : Hp} {p : Addr} {bs : List Bool} {s : Nat} {fp : List Addr} (S : HdAt a H p bs s fp) (e : ∀ b u, H b = some u → b ∈ fp → H' b = some u) : HdAt a H' p bs s fp := by
  obtain ⟨dx, m, S⟩ := S
  exact ⟨dx, m, { S with ob := e _ _ S.ob S.fpp, ls := e _ _ S.ls S.fpm }⟩
theorem HdAt.live {a : Adr} {H : Hp} {p : Addr} {bs : List Bool} {s : Nat} {fp : List Addr} (S : HdAt a H p bs s fp) : ∀ b ∈ fp, ∃ u, H b = some u := by
  obtain ⟨dx, m, S⟩ := S
  intro b hb
  rw [S.fe] at hb
  simp at hb
  rcases hb with rfl | rfl
  · exact ⟨_, S.ob⟩
  · exact ⟨_, S.ls⟩
def sweep : Nat → List Bool → Nat → List Bool × Nat
  | 0, bs, s => (bs, s)
  | k + 1, bs, s => if bs.getD s false = true then sweep k (bs.set s false) ((s + 1) % bs.length) else (bs, s)
theorem count_set {bs : List Bool} {s : Nat} (h : bs.getD s false = true) : (bs.set s false).count true + 1 = bs.count true := by
  induction bs generalizing s with
  | nil => simp at h
  | cons b r ih =>
    cases s with
    | zero =>
      have h' : b = true := by simpa using h
      subst h'
      simp
    | succ s =>
      have := ih (s := s) (by simpa using h)
      rw [List.set_cons_succ, List.count_cons, List.count_cons]
      omega
def spHInit (a : Adr) : Sp := fun vs H Q E => ∃ (p dx : Addr) (n : Int), vs = [.ref p, .int n] ∧ H p = some (.ins a.c_Hand dx []) ∧
  (1 ≤ n ∧ n ≤ 64 → ∀ H' fp, HdAt a H' p (List.replicate n.toNat false) 0 fp → (∀ b u, H b = some u → b ≠ p → H' b = some u) → (∀ b, b ∈ fp → (b = p ∨ H b = none) ∧ ∃ u, H' b = some u) → Q .non H') ∧
  (¬ (1 ≤ n ∧ n ≤ 64) → E (.ref a.c_NoShape) none H)
def spMark (a : Adr) (v : Bool) : Sp := fun vs H Q _ => ∃ (p : Addr) (bs : List Bool) (s : Nat) (fp : List Addr) (f : Int), vs = [.ref p, .int f] ∧ HdAt a H p bs s fp ∧ 0 ≤ f ∧ f < bs.length ∧
  ∀ H', HdAt a H' p (bs.set f.toNat v) s fp → Fr fp fp H H' → Q .non H'
def spGoOn (a : Adr) : Sp := fun vs H Q _ => ∃ (p : Addr) (bs : List Bool) (s : Nat) (fp : List Addr), vs = [.ref p] ∧ HdAt a H p bs s fp ∧
  ∀ H', HdAt a H' p bs ((s + 1) % bs.length) fp → Fr fp fp H H' → Q .non H'
def spChosen (a : Adr) : Sp := fun vs H Q _ => ∃ (p : Addr) (bs : List Bool) (s : Nat) (fp : List Addr), vs = [.ref p] ∧ HdAt a H p bs s fp ∧
  ∀ H', HdAt a H' p (sweep (bs.count true) bs s).1 (((sweep (bs.count true) bs s).2 + 1) % bs.length) fp → Fr fp fp H H' → Q (.int (sweep (bs.count true) bs s).2) H'
def spMarks (a : Adr) : Sp := fun vs H Q _ => ∃ (p : Addr) (bs : List Bool) (s : Nat) (fp : List Addr), vs = [.ref p] ∧ HdAt a H p bs s fp ∧ ∀ q, H q = none → Q (.ref q) (upd H q (.lst (bs.map V.bl)))
theorem flat_one {v : V} : ∀ n : Nat, (List.replicate n [v]).flatten = List.replicate n v
  | 0 => rfl
  | n + 1 => by rw [List.replicate_succ, List.flatten_cons, flat_one n, List.replicate_succ]; rfl
theorem putF_st {m : Addr} {s s' : Int} : putF "standing" (.int s') ([("marked", .ref m), ("standing", .int s)] : List (Str × V)) = ([("marked", .ref m), ("standing", .int s')] : List (Str × V)) := by
  rw [pf_ne (by decide +kernel), pf_eq]
theorem atI_getB {bs : List Bool} {s : Nat} (h : s < bs.length) : atI (bs.map V.bl) (s : Int) = some (.bl (bs.getD s false)) := by
  refine atI_nat ?_
  rw [List.getElem?_map, List.getElem?_eq_getElem h, List.getD_eq_getElem?_getD, List.getElem?_eq_getElem h]
  rfl
theorem ixN_mapB {bs : List Bool} {n : Int} (h0 : 0 ≤ n) (h1 : n < bs.length) : ixN (bs.map V.bl).length n = some n.toNat := by
  have := ixN_map (ns := bs.map fun _ => (0 : Int)) h0 (by rw [List.length_map]; exact h1)
  rw [List.length_map, List.length_map] at this
  rw [List.length_map]
  exact this
theorem HdIn.setB {a : Adr} {H : Hp} {p dx m : Addr} {bs : List Bool} {s : Nat} {fp : List Addr} (S : HdIn a H p dx m bs s fp) (cs : List Bool) (hc : cs.length = bs.length) : HdIn a (upd H m (.lst (cs.map V.bl))) p dx m cs s fp :=
  { S with ob := by rw [upd_ne S.ne]; exact S.ob, ls := upd_same, lt := by rw [hc]; exact S.lt, le := by rw [hc]; exact S.le }
theorem HdIn.setS {a : Adr} {H : Hp} {p dx m : Addr} {bs : List Bool} {s : Nat} {fp : List Addr} (S : HdIn a H p dx m bs s fp) (t : Nat) (ht : t < bs.length) : HdIn a (upd H p (.ins a.c_Hand dx (fldH m t))) p dx m bs t fp :=
  { S with ob := upd_same, ls := by rw [upd_ne S.ne.symm]; exact S.ls, lt := ht }
theorem sweep_no {bs : List Bool} {s : Nat} (h : bs.getD s false = false) : sweep (bs.count true) bs s = (bs, s) := by
  cases bs.count true with
  | zero => rfl
  | succ k => show (if bs.getD s false = true then _ else _) = _; rw [h]; rfl
theorem sweep_go {bs : List Bool} {s : Nat} (h : bs.getD s false = true) : sweep (bs.count true) bs s = sweep ((bs.set s false).count true) (bs.set s false) ((s + 1) % bs.length) := by
  rw [← count_set h]
  show (if bs.getD s false = true then _ else _) = _
  rw [if_pos h]
theorem sweep_len : ∀ (k : Nat) (bs : List Bool) (s : Nat), s < bs.length → (sweep k bs s).1.length = bs.length ∧ (sweep k bs s).2 < bs.length
  | 0, bs, s, h => ⟨rfl, h⟩
  | k + 1, bs, s, h => by
    unfold sweep
    split
    · have := sweep_len k (bs.set s false) ((s + 1) % bs.length) (by rw [List.length_set]; exact Nat.mod_lt _ (by omega))
      rw [List.length_set] at this
      exact this
    · exact ⟨rfl, h⟩
section
variable {P : Program} {w : World} {K : PySem.W.Frag} {mg : Str → Option Value} {base : Heap} {a : Adr}
theorem ok_Hand___init__ {dvs : List V} (R : RawI K a.c_Hand "Hand.__init__" s_Hand___init__ ["self", "many"] dvs) (T : Txt K mg a) :
    HasMk P w K mg base a.c_Hand 1 ["self", "many"] (spHInit a) dvs := by
  refine R.ok sc_Hand___init__ (fun vs H Q E h => ?_) (fun f cdv A outer s H vs Q E hr h => ?_)
  · obtain ⟨p, dx, n, rfl, _⟩ := h
    rfl
  obtain ⟨p, dx, n, rfl, hp, k1, k2⟩ := h
  refine ⟨_, (@pss_cons _ _ _ _ _ (ps_if (pt_not (pt_chain op_le op_le pe_int (pv 1) (pe_globI (by rfl) T.g_MOST_FRAMES))) (@pss_one _ _ _ (ps_raise T.x_NoShape rfl (by rfl) T.m_NoShape pass_def (@pa_cn _ _ _ _ _ pe_str pa_nil rfl))) pss_nil)
      (@pss_cons _ _ _ _ _ (ps_fld (pv 0) (pe_op op_rep (@pe_lst _ _ _ _ (@pa_cn _ _ _ _ _ pe_bl pa_nil rfl)) (pv 1)) rfl)
      (@pss_one _ _ _ (ps_fld (pv 0) pe_int rfl)))), ?_⟩
  have t1 := T.cl_Hand; have t2 := T.n_Hand_marked; have t3 := T.n_Hand_standing
  walk_at "go"
  refine iteD (fun c0 => ?_) (fun c0 => ?_)
  · walk_at "go"
    refine iteN (fun c1 => ?_) (fun c1 => ?_)
    · walk_at "go"
      exact k2 fun z => c1 z.2
    · have c1' : n ≤ 64 := c1
      refine ⟨one_line, fun q hq => ⟨_, rfl, q, n, [V.bl false], rfl, rfl, upd_same, by omega, by omega, ?_, fun l hl => ?_⟩⟩
      · rw [sizeLine_eq]; show 1 * n.toNat ≤ _; omega
      · walk_at "go"
        have hql : l ≠ q := fun z => by rw [z, upd_same] at hl; cases hl
        have hl0 : H l = none := by rw [upd_ne hql] at hl; exact hl
        have npq := ne_of_none hp hq
        have npl := ne_of_none hp hl0
        rw [pf_nil, pf_ne (by decide +kernel), pf_nil]
        refine k1 ⟨c0, c1'⟩ _ [p, l] ⟨dx, l, ⟨upd_same, ?_, ?_, ?_, rfl⟩⟩ (fun b u e hb => ?_) (fun b hb => ?_)
        · rw [upd_ne npl.symm, upd_ne npl.symm, upd_same]
          show some (HO.lst (List.replicate n.toNat [V.bl false]).flatten) = _
          rw [List.map_replicate, flat_one]
        · rw [List.length_replicate]; omega
        · rw [List.length_replicate]; omega
        · rw [upd_ne hb, upd_ne hb, upd_ne (ne_of_none e hl0), upd_ne (ne_of_none e hq)]; exact e
        · simp at hb
          rcases hb with rfl | rfl
          · exact ⟨.inl rfl, _, upd_same⟩
          · exact ⟨.inr hl0, _, by rw [upd_ne npl.symm, upd_ne npl.symm]; exact upd_same⟩
  · walk_at "go"
    exact k2 fun z => c0 z.1
theorem ok_Hand_mark {dvs : List V} (R : RawM K a.c_Hand "mark" "Hand.mark" s_Hand_mark ["self", "frame"] dvs) (T : Txt K mg a) :
    HasMe P w K mg base a.c_Hand 1 "mark" ["self", "frame"] (spMark a true) dvs := by
  refine R.ok sc_Hand_mark (fun vs H Q E h => ?_) (fun f cdv A outer s H vs Q E hr h => ?_)
  · obtain ⟨p, bs, s, fp, f, rfl, _⟩ := h
    rfl
  obtain ⟨p, bs, s, fp, f, rfl, S, f0, f1, k⟩ := h
  refine ⟨_, (@pss_one _ _ _ (ps_asg pe_bl (pg_sub (pe_fld (pv 0) rfl) (pv 1) set_list))), ?_⟩
  have t1 := T.cl_Hand; have t2 := T.n_Hand_marked; have t3 := T.n_Hand_standing
  obtain ⟨dx, m, S⟩ := S
  have h1 := S.ob
  have h2 := S.ls
  refine ⟨_, rfl, p, a.c_Hand, dx, _, _, rfl, h1, t1, t2, lk_eq, _, rfl, m, _, f, _, rfl, rfl, h2, ixN_mapB f0 f1, ?_⟩
  have e : (bs.map V.bl).set f.toNat (V.bl true) = (bs.set f.toNat true).map V.bl := by rw [List.map_set]
  rw [e]
  exact k _ ⟨dx, m, S.setB _ (List.length_set ..)⟩ (Fr.put S.fpm)
theorem ok_Hand_unmark {dvs : List V} (R : RawM K a.c_Hand "unmark" "Hand.unmark" s_Hand_unmark ["self", "frame"] dvs) (T : Txt K mg a) :
    HasMe P w K mg base a.c_Hand 1 "unmark" ["self", "frame"] (spMark a false) dvs := by
  refine R.ok sc_Hand_unmark (fun vs H Q E h => ?_) (fun f cdv A outer s H vs Q E hr h => ?_)
  · obtain ⟨p, bs, s, fp, f, rfl, _⟩ := h
    rfl
  obtain ⟨p, bs, s, fp, f, rfl, S, f0, f1, k⟩ := h
  refine ⟨_, (@pss_one _ _ _ (ps_asg pe_bl (pg_sub (pe_fld (pv 0) rfl) (pv 1) set_list))), ?_⟩
  have t1 := T.cl_Hand; have t2 := T.n_Hand_marked; have t3 := T.n_Hand_standing
  obtain ⟨dx, m, S⟩ := S
  have h1 := S.ob
  have h2 := S.ls
  refine ⟨_, rfl, p, a.c_Hand, dx, _, _, rfl, h1, t1, t2, lk_eq, _, rfl, m, _, f, _, rfl, rfl, h2, ixN_mapB f0 f1, ?_⟩
  have e : (bs.map V.bl).set f.toNat (V.bl false) = (bs.set f.toNat false).map V.bl := by rw [List.map_set]
  rw [e]
  exact k _ ⟨dx, m, S.setB _ (List.length_set ..)⟩ (Fr.put S.fpm)
theorem ok_Hand_go_on {dvs : List V} (R : RawM K a.c_Hand "go_on" "Hand.go_on" s_Hand_go_on ["self"] dvs) (T : Txt K mg a) :
    HasMe P w K mg base a.c_Hand 1 "go_on" ["self"] (spGoOn a) dvs := by
  refine R.ok sc_Hand_go_on (fun vs H Q E h => ?_) (fun f cdv A outer s H vs Q E hr h => ?_)
  · obtain ⟨p, bs, s, fp, rfl, _⟩ := h
    rfl
  obtain ⟨p, bs, s, fp, rfl, S, k⟩ := h
  refine ⟨_, (@pss_one _ _ _ (ps_fld (pv 0) (pe_op op_mod (pe_op op_add (pe_fld (pv 0) rfl) pe_int) (pe_callB call_len_seq (by rfl) T.b_len PySem.boot_len (@pa_cn _ _ _ _ _ (pe_fld (pv 0) rfl) pa_nil rfl))) rfl)), ?_⟩
  have t1 := T.cl_Hand; have t2 := T.n_Hand_marked; have t3 := T.n_Hand_standing
  obtain ⟨dx, m, S⟩ := S
  have h1 := S.ob
  have h2 := S.ls
  have lt := S.lt
  have lp : (0 : Int) < (bs.map V.bl).length := by rw [List.length_map]; omega
  walk_at "go"
  have e : ((s : Int) + 1) % ((bs.map V.bl).length : Int) = ((s + 1) % bs.length : Nat) := by rw [List.length_map]; push_cast; rfl
  show Q .non (upd H p (.ins a.c_Hand dx (putF "standing" (.int (((s : Int) + 1) % ((bs.map V.bl).length : Int))) (fldH m s))))
  rw [e, putF_st]
  exact k _ ⟨dx, m, S.setS _ (Nat.mod_lt _ (by omega))⟩ (Fr.put S.fpp)
theorem ok_Hand_chosen {dvs : List V} (R : RawM K a.c_Hand "chosen" "Hand.chosen" s_Hand_chosen ["self"] dvs) (T : Txt K mg a)
    (h_Hand_unmark : HasMe P w K mg base a.c_Hand 1 "unmark" ["self", "frame"] (spMark a false) [])
    (h_Hand_go_on : HasMe P w K mg base a.c_Hand 1 "go_on" ["self"] (spGoOn a) []) :
    HasMe P w K mg base a.c_Hand 2 "chosen" ["self"] (spChosen a) dvs := by
  refine R.ok sc_Hand_chosen (fun vs H Q E h => ?_) (fun f cdv A outer s H vs Q E hr h => ?_)
  · obtain ⟨p, bs, s, fp, rfl, _⟩ := h
    rfl
  obtain ⟨p, bs, s, fp, rfl, S, k⟩ := h
  refine ⟨_, (@pss_cons _ _ _ _ _ (ps_while own_def (pt_val (@pe_ix _ _ _ _ _ _ _ ix_list (pe_fld (pv 0) rfl) (pe_fld (pv 0) rfl) (fun _ _ => rfl))) (@pss_cons _ _ _ _ _ (ps_expr (pe_me (pv 0) T.cl_Hand h_Hand_unmark (hr.mono (by decide)) pass_def (@pa_cn _ _ _ _ _ (pe_fld (pv 0) rfl) pa_nil rfl)))
      (@pss_one _ _ _ (ps_expr (pe_me0 (pv 0) T.cl_Hand h_Hand_go_on (hr.mono (by decide)) pass_def)))))
      (@pss_cons _ _ _ _ _ (@ps_set _ _ 1 _ _ _ _ sc_Hand_chosen.nd rfl (by first | exact Or.inl rfl | exact Or.inr rfl) (pe_fld (pv 0) rfl) (by rfl) (by first | exact Or.inl rfl | exact Or.inr rfl))
      (@pss_cons _ _ _ _ _ (ps_expr (pe_me0 (pv 0) T.cl_Hand h_Hand_go_on (hr.mono (by decide)) pass_def))
      (@pss_one _ _ _ (@ps_ret _ _ _ _ (pv 1)))))), ?_⟩
  have t1 := T.cl_Hand; have t2 := T.n_Hand_marked; have t3 := T.n_Hand_standing
  obtain ⟨dx, m, S⟩ := S
  refine ⟨fun n σ H' => σ = [some (.ref p), none] ∧ ∃ bs1 s1, n = bs1.count true ∧ HdAt a H' p bs1 s1 fp ∧ Fr fp fp H H' ∧ bs1.length = bs.length ∧ sweep (bs1.count true) bs1 s1 = sweep (bs.count true) bs s, ⟨_, rfl, bs, s, rfl, ⟨dx, m, S⟩, .refl _ _, rfl, rfl⟩, ?_⟩
  rintro n σ H1 ⟨rfl, bs1, s1, rfl, S1, F1, l1, e1⟩
  obtain ⟨dx1, m1, S1⟩ := S1
  have g1 := S1.ob
  have g2 := S1.ls
  have g3 := atI_getB S1.lt
  have lt1 := S1.lt
  have SA : HdAt a H1 p bs1 s1 fp := ⟨dx1, m1, S1⟩
  cases hb : bs1.getD s1 false with
  | true =>
    rw [hb] at g3
    walk_at "go"
    refine ⟨fun σ H' => σ = [some (.ref p), none] ∧ ∃ bs2 s2, bs2.count true < bs1.count true ∧ HdAt a H' p bs2 s2 fp ∧ Fr fp fp H H' ∧ bs2.length = bs.length ∧ sweep (bs2.count true) bs2 s2 = sweep (bs.count true) bs s, ?_, ?_⟩
    · rintro σ' H' ⟨rfl, bs2, s2, lt2, S2, F2, l2, e2⟩
      exact ⟨_, lt2, rfl, bs2, s2, rfl, S2, F2, l2, e2⟩
    · walk_at "go"
      intro H2 S2 F2
      rw [Int.toNat_natCast] at S2
      obtain ⟨dx2, m2, S2⟩ := S2
      have g4 := S2.ob
      have SB : HdAt a H2 p (bs1.set s1 false) s1 fp := ⟨dx2, m2, S2⟩
      walk_at "go"
      intro H3 S3 F3
      rw [List.length_set] at S3
      exact ⟨rfl, _, _, by have := count_set hb; omega, S3, F1.trans (F2.trans F3), by rw [List.length_set]; exact l1, by rw [← e1, sweep_go hb]⟩
  | false =>
    rw [hb] at g3
    walk_at "go"
    intro H2 S2 F2
    walk_at "go"
    rw [← e1, sweep_no hb, ← l1] at k
    exact k _ S2 (F1.trans F2)
theorem ok_Hand_marks {dvs : List V} (R : RawM K a.c_Hand "marks" "Hand.marks" s_Hand_marks ["self"] dvs) (T : Txt K mg a) :
    HasMe P w K mg base a.c_Hand 1 "marks" ["self"] (spMarks a) dvs := by
  refine R.ok sc_Hand_marks (fun vs H Q E h => ?_) (fun f cdv A outer s H vs Q E hr h => ?_)
  · obtain ⟨p, bs, s, fp, rfl, _⟩ := h
    rfl
  obtain ⟨p, bs, s, fp, rfl, S, k⟩ := h
  refine ⟨_, (@pss_one _ _ _ (@ps_ret _ _ _ _ (pe_callTy call_list_of (by rfl) T.b_list PyProof.Rows.Boot.«list» (@pa_cn _ _ _ _ _ (pe_fld (pv 0) rfl) pa_nil rfl)))), ?_⟩
  have t1 := T.cl_Hand; have t2 := T.n_Hand_marked; have t3 := T.n_Hand_standing
  obtain ⟨dx, m, S⟩ := S
  have h1 := S.ob
  have h2 := S.ls
  walk_at "go"
  exact k
end
end K30

set_option maxHeartbeats 4000000
namespace K30
open PySem L2
inductive Lf where
  | fresh (r : Int) | held (r f : Int) | out (r s : Int) | named (r : Int) (n : Str) (p : Int)
  deriving DecidableEq
def Lf.cls (a : Adr) : Lf → Addr
  | .fresh _ => a.c_Fresh
  | .held _ _ => a.c_Held
  | .out _ _ => a.c_Out
  | .named _ _ _ => a.c_Named
def Lf.fs : Lf → List (Str × V)
  | .fresh r => [("rights", .int r)] | .held r f => [("rights", .int r), ("frame", .int f)] | .out r s => [("rights", .int r), ("slot", .int s)] | .named r n p => [("rights", .int r), ("name", .str n), ("part", .int p)]
def Lf.kind : Lf → Nat
  | .fresh _ => 0 | .held _ _ => 1 | .out _ _ => 2 | .named _ _ _ => 3
def LfAt (a : Adr) (H : Hp) (x : Addr) (f : Lf) : Prop := ∃ dx, H x = some (.ins (f.cls a) dx f.fs)
theorem LfAt.same {a : Adr} {H H' : Hp} {x : Addr} {f : Lf} (h : LfAt a H x f) (s : Same H H') : LfAt a H' x f := let ⟨dx, e⟩ := h; ⟨dx, s _ _ e⟩
def OkR (r : Int) : Prop := 0 ≤ r ∧ r ≤ 3
instance (r : Int) : Decidable (OkR r) := by unfold OkR; infer_instance
def spRights (a : Adr) : Sp := fun vs H Q E => ∃ r : Int, vs = [.int r] ∧ (OkR r → Q .non H) ∧ (¬ OkR r → E (.ref a.c_NoRights) none H)
def spLeafInit (a : Adr) (K : PySem.W.Frag) : Sp := fun vs H Q E => ∃ (p dx C : Addr) (r : Int), vs = [.ref p, .int r] ∧ H p = some (.ins C dx []) ∧ Cls K C ∧ NoAttr K C "rights" ∧
  (OkR r → Q .non (upd H p (.ins C dx [("rights", .int r)]))) ∧ (¬ OkR r → E (.ref a.c_NoRights) none H)
def spHeldInit (a : Adr) : Sp := fun vs H Q E => ∃ (p dx : Addr) (r f : Int), vs = [.ref p, .int r, .int f] ∧ H p = some (.ins a.c_Held dx []) ∧
  (OkR r → Q .non (upd H p (.ins a.c_Held dx (Lf.held r f).fs))) ∧ (¬ OkR r → E (.ref a.c_NoRights) none H)
def spOutInit (a : Adr) : Sp := fun vs H Q E => ∃ (p dx : Addr) (r f : Int), vs = [.ref p, .int r, .int f] ∧ H p = some (.ins a.c_Out dx []) ∧
  (OkR r → Q .non (upd H p (.ins a.c_Out dx (Lf.out r f).fs))) ∧ (¬ OkR r → E (.ref a.c_NoRights) none H)
def spNamedInit (a : Adr) : Sp := fun vs H Q E => ∃ (p dx : Addr) (r f : Int) (n : Str), vs = [.ref p, .int r, .str n, .int f] ∧ H p = some (.ins a.c_Named dx []) ∧
  (OkR r → Q .non (upd H p (.ins a.c_Named dx (Lf.named r n f).fs))) ∧ (¬ OkR r → E (.ref a.c_NoRights) none H)
section
variable {P : Program} {w : World} {K : PySem.W.Frag} {mg : Str → Option Value} {base : Heap} {a : Adr}
theorem ok_check_rights {dvs : List V} (R : RawF K mg "check_rights" s_check_rights ["rights"] dvs) (T : Txt K mg a) :
    HasFn P w K mg base 1 "check_rights" ["rights"] (spRights a) dvs := by
  refine R.ok sc_check_rights (fun vs H Q E h => ?_) (fun f cdv A outer s H vs Q E hr h => ?_)
  · obtain ⟨r, rfl, _⟩ := h
    rfl
  obtain ⟨r, rfl, k1, k2⟩ := h
  refine ⟨_, (@pss_one _ _ _ (ps_if (pt_not (pt_chain op_le op_le pe_int (pv 0) pe_int)) (@pss_one _ _ _ (ps_raise T.x_NoRights rfl (by rfl) T.m_NoRights pass_def (@pa_cn _ _ _ _ _ pe_str pa_nil rfl))) pss_nil)), ?_⟩
  walk_at "go"
  refine iteD (fun c0 => ?_) (fun c0 => ?_)
  · walk_at "go"
    exact iteN (fun c1 => ⟨one_line, k2 fun z => c1 z.2⟩) fun c1 => k1 ⟨c0, c1⟩
  · walk_at "go"
    exact k2 fun z => c0 z.1
theorem fk_Leaf___init__ {f : Addr} {oc : Value} {od : Option Addr} {dV kV doc pm : Value} {an : Option Addr} {cdv ct : Value} {osl : Array (Option Value)} (lk : K.lookup f = some ⟨oc, od, .func (PySem.W.fnOf "__init__" "Leaf.__init__" (defArgs s_Leaf___init__) (defBody s_Leaf___init__) (defScope s_Leaf___init__) dV kV doc pm an cdv ct), osl⟩) (hcd : PySem.W.codeIn K cdv "Leaf.__init__" = true) (T : Txt K mg a)
    (h_check_rights : HasFn P w K mg base 1 "check_rights" ["rights"] (spRights a) []) :
    FnOk P w K mg base (CXE P w) 2 f (PySem.W.fnOf "__init__" "Leaf.__init__" (defArgs s_Leaf___init__) (defBody s_Leaf___init__) (defScope s_Leaf___init__) dV kV doc pm an cdv ct) ["self", "rights"] (spLeafInit a K) := by
  refine fn_of lk hcd sc_Leaf___init__ (fun vs H Q E h => ?_) (fun A outer s H vs Q E hr h => ?_)
  · obtain ⟨p, dx, C, r, rfl, _⟩ := h
    rfl
  obtain ⟨p, dx, C, r, rfl, hp, t1, t2, k1, k2⟩ := h
  refine ⟨_, (@pss_cons _ _ _ _ _ (ps_expr (pe_fn h_check_rights (hr.mono (by decide)) (by rfl) pass_def (@pa_cn _ _ _ _ _ (pv 1) pa_nil rfl)))
      (@pss_one _ _ _ (ps_fld (pv 0) (pv 1) rfl))), ?_⟩
  walk_at "go"
  refine ⟨fun ok => ?_, fun bad => k2 bad⟩
  walk_at "go"
  exact k1 ok
theorem ok_Held___init__ {dvs : List V} (R : RawI K a.c_Held "Held.__init__" s_Held___init__ ["self", "rights", "frame"] dvs) (T : Txt K mg a)
    (hc_Leaf___init__ : HasCm P w K mg base a.c_Leaf 2 "__init__" ["self", "rights"] (spLeafInit a K) []) :
    HasMk P w K mg base a.c_Held 3 ["self", "rights", "frame"] (spHeldInit a) dvs := by
  refine R.ok sc_Held___init__ (fun vs H Q E h => ?_) (fun f cdv A outer s H vs Q E hr h => ?_)
  · obtain ⟨p, dx, r, f, rfl, _⟩ := h
    rfl
  obtain ⟨p, dx, r, f, rfl, hp, k1, k2⟩ := h
  refine ⟨_, (@pss_cons _ _ _ _ _ (ps_expr (pe_cm (by rfl) T.m_Leaf hc_Leaf___init__ (hr.mono (by decide)) pass_def (@pa_cn _ _ _ _ _ (pv 0) (@pa_cn _ _ _ _ _ (pv 1) pa_nil rfl) rfl)))
      (@pss_one _ _ _ (ps_fld (pv 0) (pv 2) rfl))), ?_⟩
  have d1 := T.cl_Held; have d2 := T.n_Held_rights; have d3 := T.n_Held_frame
  walk_at "go"
  refine ⟨fun ok => ?_, fun bad => k2 bad⟩
  walk_at "go"
  rw [pf_ne (by decide +kernel), pf_nil, upd_upd]
  exact k1 ok
theorem ok_Out___init__ {dvs : List V} (R : RawI K a.c_Out "Out.__init__" s_Out___init__ ["self", "rights", "slot"] dvs) (T : Txt K mg a)
    (hc_Leaf___init__ : HasCm P w K mg base a.c_Leaf 2 "__init__" ["self", "rights"] (spLeafInit a K) []) :
    HasMk P w K mg base a.c_Out 3 ["self", "rights", "slot"] (spOutInit a) dvs := by
  refine R.ok sc_Out___init__ (fun vs H Q E h => ?_) (fun f cdv A outer s H vs Q E hr h => ?_)
  · obtain ⟨p, dx, r, f, rfl, _⟩ := h
    rfl
  obtain ⟨p, dx, r, f, rfl, hp, k1, k2⟩ := h
  refine ⟨_, (@pss_cons _ _ _ _ _ (ps_expr (pe_cm (by rfl) T.m_Leaf hc_Leaf___init__ (hr.mono (by decide)) pass_def (@pa_cn _ _ _ _ _ (pv 0) (@pa_cn _ _ _ _ _ (pv 1) pa_nil rfl) rfl)))
      (@pss_one _ _ _ (ps_fld (pv 0) (pv 2) rfl))), ?_⟩
  have d1 := T.cl_Out; have d2 := T.n_Out_rights; have d3 := T.n_Out_slot
  walk_at "go"
  refine ⟨fun ok => ?_, fun bad => k2 bad⟩
  walk_at "go"
  rw [pf_ne (by decide +kernel), pf_nil, upd_upd]
  exact k1 ok
theorem ok_Named___init__ {dvs : List V} (R : RawI K a.c_Named "Named.__init__" s_Named___init__ ["self", "rights", "name", "part"] dvs) (T : Txt K mg a)
    (hc_Leaf___init__ : HasCm P w K mg base a.c_Leaf 2 "__init__" ["self", "rights"] (spLeafInit a K) []) :
    HasMk P w K mg base a.c_Named 3 ["self", "rights", "name", "part"] (spNamedInit a) dvs := by
  refine R.ok sc_Named___init__ (fun vs H Q E h => ?_) (fun f cdv A outer s H vs Q E hr h => ?_)
  · obtain ⟨p, dx, r, f, n, rfl, _⟩ := h
    rfl
  obtain ⟨p, dx, r, f, n, rfl, hp, k1, k2⟩ := h
  refine ⟨_, (@pss_cons _ _ _ _ _ (ps_expr (pe_cm (by rfl) T.m_Leaf hc_Leaf___init__ (hr.mono (by decide)) pass_def (@pa_cn _ _ _ _ _ (pv 0) (@pa_cn _ _ _ _ _ (pv 1) pa_nil rfl) rfl)))
      (@pss_cons _ _ _ _ _ (ps_fld (pv 0) (pv 2) rfl)
      (@pss_one _ _ _ (ps_fld (pv 0) (pv 3) rfl)))), ?_⟩
  have d1 := T.cl_Named; have d2 := T.n_Named_rights; have d3 := T.n_Named_name; have d4 := T.n_Named_part
  walk_at "go"
  refine ⟨fun ok => ?_, fun bad => k2 bad⟩
  walk_at "go"
  rw [pf_ne (by decide +kernel), pf_nil, pf_ne (by decide +kernel), pf_ne (by decide +kernel), pf_nil, upd_upd, upd_upd]
  exact k1 ok
end
end K30

set_option maxHeartbeats 4000000
namespace K30
open PySem L2
abbrev Mv := Bool × Int × Int
def mvWay (b : Bool) : Str := if b then "out" else "in"
def mvTup (m : Mv) : List V := [.str (mvWay m.1), .int m.2.1, .int m.2.2]
structure MvAt (H : Hp) (l : Addr) (ts : List Addr) (mv : List Mv) : Prop where
  hl : H l = some (.lst (ts.map V.ref))
  len : ts.length = mv.length
  at' : ∀ (i : Nat) (t : Addr) (m : Mv), ts[i]? = some t → mv[i]? = some m → H t = some (.tup (mvTup m))
abbrev fldP (f g h : Addr) (s : Int) : List (Str × V) := [("frame_store", .ref f), ("slot_store", .ref g), ("hand", .ref h), ("length", .int s)]
structure Wds (R : Rooms) : Prop where
  nn : ∀ c ∈ R.cs, 0 ≤ c
  wd : ∀ (i : Nat) (c : Int) (row : List Int), R[i]? = some (c, row) → c ≠ 0 → ∀ x ∈ row, IsWord x
theorem StAt.live {a : Adr} {H : Hp} {p : Addr} {s : Int} {R : Rooms} {fp : List Addr} (S : StAt a H p s R fp) : ∀ b ∈ fp, ∃ u, H b = some u := by
  obtain ⟨dx, t, l, d, kvs, S⟩ := S
  exact S.lv
theorem StAt.eqv {a : Adr} {H H' : Hp} {p : Addr} {s : Int} {R : Rooms} {fp : List Addr} (S : StAt a H p s R fp) (e : ∀ b u, H b = some u → b ∈ fp → H' b = some u) : StAt a H' p s R fp := by
  obtain ⟨dx, t, l, d, kvs, S⟩ := S
  exact ⟨dx, t, l, d, kvs, S.eqv e⟩
theorem StAt.r64 {a : Adr} {H : Hp} {p : Addr} {s : Int} {R : Rooms} {fp : List Addr} (S : StAt a H p s R fp) : R.length ≤ 64 := by
  obtain ⟨dx, t, l, d, kvs, S⟩ := S
  exact S.r64
theorem StAt.sz {a : Adr} {H : Hp} {p : Addr} {s : Int} {R : Rooms} {fp : List Addr} (S : StAt a H p s R fp) : 1 ≤ s ∧ s ≤ 64 := by
  obtain ⟨dx, t, l, d, kvs, S⟩ := S
  exact ⟨S.s1, S.s64⟩
theorem Used.get1 {R : Rooms} {n : Int} (u : Used R n) : ∃ c row, R[n.toNat]? = some (c, row) ∧ c = cntOf R n ∧ row = rowOf R n ∧ c ≠ 0 := by
  have h0 := u.1.1
  have h1 := u.1.2
  rw [List.length_map] at h1
  have hk : n.toNat < R.length := by omega
  have e1 : cntOf R n = (R[n.toNat]).1 := by unfold cntOf; rw [List.getD_eq_getElem?_getD, List.getElem?_map, List.getElem?_eq_getElem hk]; rfl
  have e2 : rowOf R n = (R[n.toNat]).2 := by unfold rowOf; rw [List.getD_eq_getElem?_getD, List.getElem?_map, List.getElem?_eq_getElem hk]; rfl
  exact ⟨_, _, List.getElem?_eq_getElem hk, e1.symm, e2.symm, by have := u.2; unfold cntOf at e1; rw [e1] at this; exact this⟩
theorem StAt.rowlen {a : Adr} {H : Hp} {p : Addr} {s : Int} {R : Rooms} {fp : List Addr} {n : Int} (S : StAt a H p s R fp) (u : Used R n) : ((rowOf R n).length : Int) = s := by
  obtain ⟨dx, t, l, d, kvs, S⟩ := S
  obtain ⟨x, _, _, _, h, _⟩ := S.at u
  exact h
structure PlIn (a : Adr) (H : Hp) (p dx f g h : Addr) (s : Int) (R S : Rooms) (bs : List Bool) (st : Nat) (f1 f2 f3 : List Addr) : Prop where
  ob : H p = some (.ins a.c_Pool dx (fldP f g h s))
  s1 : StAt a H f s R f1
  s2 : StAt a H g s S f2
  s3 : HdAt a H h bs st f3
  ln : bs.length = R.length
  w1 : Wds R
  w2 : Wds S
  p1 : p ∉ f1
  p2 : p ∉ f2
  p3 : p ∉ f3
  a12 : ∀ b ∈ f1, b ∉ f2
  a13 : ∀ b ∈ f1, b ∉ f3
  a23 : ∀ b ∈ f2, b ∉ f3
def plFp (p : Addr) (f1 f2 f3 : List Addr) : List Addr := p :: (f1 ++ (f2 ++ f3))
def PlAt (a : Adr) (H : Hp) (p : Addr) (s : Int) (R S : Rooms) (bs : List Bool) (st : Nat) (fp : List Addr) : Prop := ∃ dx f g h f1 f2 f3, PlIn a H p dx f g h s R S bs st f1 f2 f3 ∧ fp = plFp p f1 f2 f3
theorem mem_plFp {p b : Addr} {f1 f2 f3 : List Addr} : b ∈ plFp p f1 f2 f3 ↔ b = p ∨ b ∈ f1 ∨ b ∈ f2 ∨ b ∈ f3 := by
  unfold plFp
  rw [List.mem_cons, List.mem_append, List.mem_append]
section
variable {a : Adr} {H H' : Hp} {p dx f g h : Addr} {s : Int} {R S R' S' : Rooms} {bs bs' : List Bool} {st st' : Nat} {f1 f2 f3 f1' f2' fp : List Addr}
theorem PlIn.live (P : PlIn a H p dx f g h s R S bs st f1 f2 f3) : ∀ b ∈ plFp p f1 f2 f3, ∃ u, H b = some u := fun b hb => by
  rcases mem_plFp.mp hb with w | w | w | w
  · rw [w]; exact ⟨_, P.ob⟩
  · exact P.s1.live b w
  · exact P.s2.live b w
  · exact P.s3.live b w
theorem PlIn.eqv (P : PlIn a H p dx f g h s R S bs st f1 f2 f3) (e : ∀ b u, H b = some u → b ∈ plFp p f1 f2 f3 → H' b = some u) : PlIn a H' p dx f g h s R S bs st f1 f2 f3 :=
  { P with
    ob := e _ _ P.ob (mem_plFp.mpr (.inl rfl))
    s1 := P.s1.eqv fun b u q m => e b u q (mem_plFp.mpr (.inr (.inl m)))
    s2 := P.s2.eqv fun b u q m => e b u q (mem_plFp.mpr (.inr (.inr (.inl m))))
    s3 := P.s3.eqv fun b u q m => e b u q (mem_plFp.mpr (.inr (.inr (.inr m)))) }
theorem PlAt.eqv (P : PlAt a H p s R S bs st fp) (e : ∀ b u, H b = some u → b ∈ fp → H' b = some u) : PlAt a H' p s R S bs st fp := by
  obtain ⟨dx, f, g, h, f1, f2, f3, P, rfl⟩ := P
  exact ⟨dx, f, g, h, f1, f2, f3, P.eqv e, rfl⟩
theorem PlAt.same (P : PlAt a H p s R S bs st fp) (e : Same H H') : PlAt a H' p s R S bs st fp := P.eqv fun b u q _ => e b u q
theorem PlIn.same (P : PlIn a H p dx f g h s R S bs st f1 f2 f3) (e : Same H H') : PlIn a H' p dx f g h s R S bs st f1 f2 f3 := P.eqv fun b u q _ => e b u q
theorem PlAt.live (P : PlAt a H p s R S bs st fp) : ∀ b ∈ fp, ∃ u, H b = some u := by
  obtain ⟨dx, f, g, h, f1, f2, f3, P, rfl⟩ := P
  exact P.live
theorem PlIn.ch1 (P : PlIn a H p dx f g h s R S bs st f1 f2 f3) (S1 : StAt a H' f s R' f1') (fr : Fr f1 f1' H H') (hl : R'.length = R.length) (w : Wds R') : PlIn a H' p dx f g h s R' S bs st f1' f2 f3 where
  ob := fr.1 _ _ P.ob P.p1
  s1 := S1
  s2 := P.s2.eqv fun b u q m => fr.1 b u q fun z => P.a12 b z m
  s3 := P.s3.eqv fun b u q m => fr.1 b u q fun z => P.a13 b z m
  ln := by rw [hl]; exact P.ln
  w1 := w
  w2 := P.w2
  p1 := (fr.out P.ob P.p1).2
  p2 := P.p2
  p3 := P.p3
  a12 := fun b m z => by
    rcases fr.2 b m with q | q
    · exact P.a12 b q z
    · obtain ⟨u, e⟩ := P.s2.live b z; rw [q] at e; cases e
  a13 := fun b m z => by
    rcases fr.2 b m with q | q
    · exact P.a13 b q z
    · obtain ⟨u, e⟩ := P.s3.live b z; rw [q] at e; cases e
  a23 := P.a23
theorem PlIn.ch2 (P : PlIn a H p dx f g h s R S bs st f1 f2 f3) (S2 : StAt a H' g s S' f2') (fr : Fr f2 f2' H H') (w : Wds S') : PlIn a H' p dx f g h s R S' bs st f1 f2' f3 where
  ob := fr.1 _ _ P.ob P.p2
  s1 := P.s1.eqv fun b u q m => fr.1 b u q fun z => P.a12 b m z
  s2 := S2
  s3 := P.s3.eqv fun b u q m => fr.1 b u q fun z => P.a23 b z m
  ln := P.ln
  w1 := P.w1
  w2 := w
  p1 := P.p1
  p2 := (fr.out P.ob P.p2).2
  p3 := P.p3
  a12 := fun b m z => by
    rcases fr.2 b z with q | q
    · exact P.a12 b m q
    · obtain ⟨u, e⟩ := P.s1.live b m; rw [q] at e; cases e
  a13 := P.a13
  a23 := fun b m z => by
    rcases fr.2 b m with q | q
    · exact P.a23 b q z
    · obtain ⟨u, e⟩ := P.s3.live b z; rw [q] at e; cases e
theorem PlIn.ch3 (P : PlIn a H p dx f g h s R S bs st f1 f2 f3) (S3 : HdAt a H' h bs' st' f3) (fr : Fr f3 f3 H H') (hl : bs'.length = bs.length) : PlIn a H' p dx f g h s R S bs' st' f1 f2 f3 :=
  { P with
    ob := fr.1 _ _ P.ob P.p3
    s1 := P.s1.eqv fun b u q m => fr.1 b u q fun z => P.a13 b m z
    s2 := P.s2.eqv fun b u q m => fr.1 b u q fun z => P.a23 b m z
    s3 := S3
    ln := by rw [hl]; exact P.ln }
theorem Fr.pl1 (fr : Fr f1 f1' H H') : Fr (plFp p f1 f2 f3) (plFp p f1' f2 f3) H H' :=
  ⟨fun b u e n => fr.1 b u e fun z => n (mem_plFp.mpr (.inr (.inl z))), fun b m => by
    rcases mem_plFp.mp m with w | w | w | w
    · exact .inl (mem_plFp.mpr (.inl w))
    · exact (fr.2 b w).imp (fun q => mem_plFp.mpr (.inr (.inl q))) id
    · exact .inl (mem_plFp.mpr (.inr (.inr (.inl w))))
    · exact .inl (mem_plFp.mpr (.inr (.inr (.inr w))))⟩
theorem Fr.pl2 (fr : Fr f2 f2' H H') : Fr (plFp p f1 f2 f3) (plFp p f1 f2' f3) H H' :=
  ⟨fun b u e n => fr.1 b u e fun z => n (mem_plFp.mpr (.inr (.inr (.inl z)))), fun b m => by
    rcases mem_plFp.mp m with w | w | w | w
    · exact .inl (mem_plFp.mpr (.inl w))
    · exact .inl (mem_plFp.mpr (.inr (.inl w)))
    · exact (fr.2 b w).imp (fun q => mem_plFp.mpr (.inr (.inr (.inl q)))) id
    · exact .inl (mem_plFp.mpr (.inr (.inr (.inr w))))⟩
theorem Fr.pl3 (fr : Fr f3 f3 H H') : Fr (plFp p f1 f2 f3) (plFp p f1 f2 f3) H H' :=
  ⟨fun b u e n => fr.1 b u e fun z => n (mem_plFp.mpr (.inr (.inr (.inr z)))), fun b m => .inl m⟩
end
theorem Wds.set {R : Rooms} (w : Wds R) {k : Nat} {c : Int} {row : List Int} (hc : 0 ≤ c) (hr : c ≠ 0 → ∀ x ∈ row, IsWord x) : Wds (R.set k (c, row)) := by
  refine ⟨fun d hd => ?_, fun i d row' e hd x hx => ?_⟩
  · rw [Rooms.cs_set] at hd
    rcases List.mem_or_eq_of_mem_set hd with q | q
    · exact w.nn d q
    · rw [q]; exact hc
  · by_cases q : i = k
    · subst q
      rw [List.getElem?_set] at e
      simp only [if_true] at e
      split at e
      · cases e; exact hr hd x hx
      · cases e
    · rw [List.getElem?_set_ne (fun z => q z.symm)] at e
      exact w.wd i d row' e hd x hx
theorem Wds.rowOf {R : Rooms} (w : Wds R) {n : Int} (u : Used R n) : (∀ x ∈ rowOf R n, IsWord x) ∧ 1 ≤ cntOf R n := by
  obtain ⟨c, row, e, e1, e2, hc⟩ := u.get1
  rw [← e1, ← e2]
  refine ⟨w.wd _ _ _ e hc, ?_⟩
  have := w.nn c (List.mem_map.mpr ⟨(c, row), List.mem_of_getElem? e, rfl⟩)
  omega
theorem Wds.fresh (n : Nat) : Wds (List.replicate n (0, [])) := by
  refine ⟨fun c hc => ?_, fun i c row e hc => ?_⟩
  · obtain ⟨⟨d, row⟩, h1, rfl⟩ := List.mem_map.mp hc
    rw [(List.mem_replicate.mp h1).2]; exact Int.le_refl _
  · rw [List.getElem?_replicate] at e
    split at e
    · cases e; exact absurd rfl hc
    · cases e
def chs (bs : List Bool) (st : Nat) : Nat := (sweep (bs.count true) bs st).2
def idx0 (R : Rooms) : Nat := R.cs.idxOf 0
def outR (R S : Rooms) (bs : List Bool) (st : Nat) : Rooms := if 0 ∈ R.cs then R else R.set (chs bs st) (0, rowOf R (chs bs st))
def outS (R S : Rooms) (bs : List Bool) (st : Nat) : Rooms := if 0 ∈ R.cs then S else S.set (idx0 S) (cntOf R (chs bs st), rowOf R (chs bs st))
def outB (R S : Rooms) (bs : List Bool) (st : Nat) : List Bool := if 0 ∈ R.cs then bs else (sweep (bs.count true) bs st).1
def outT (R S : Rooms) (bs : List Bool) (st : Nat) : Nat := if 0 ∈ R.cs then st else (chs bs st + 1) % bs.length
def outM (R S : Rooms) (bs : List Bool) (st : Nat) : List Mv := if 0 ∈ R.cs then [] else [(true, (chs bs st : Int), (idx0 S : Int))]
def OkW (s : Int) (ws : List Int) : Prop := (ws.length : Int) = s ∧ ∀ x ∈ ws, IsWord x
def spPRoom (a : Adr) : Sp := fun vs H Q _ => ∃ (p : Addr) (s : Int) (R S : Rooms) (bs : List Bool) (st : Nat) (fp : List Addr), vs = [.ref p] ∧ PlAt a H p s R S bs st fp ∧ Q (.int ((R.cs.count 0 : Nat) + (S.cs.count 0 : Nat))) H
def spPOut (a : Adr) : Sp := fun vs H Q _ => ∃ (p dx f g h : Addr) (s : Int) (R S : Rooms) (bs : List Bool) (st : Nat) (f1 f2 f3 : List Addr), vs = [.ref p] ∧ PlIn a H p dx f g h s R S bs st f1 f2 f3 ∧ (0 ∈ R.cs ∨ 0 ∈ S.cs) ∧
  ∀ l ts f2' H', PlIn a H' p dx f g h s (outR R S bs st) (outS R S bs st) (outB R S bs st) (outT R S bs st) f1 f2' f3 → MvAt H' l ts (outM R S bs st) → H l = none → (∀ t ∈ ts, H t = none) → (∀ b ∈ f2', b ≠ l ∧ b ∉ ts) → (∀ b ∈ f2, b ∈ f2') → Fr (plFp p f1 f2 f3) (plFp p f1 f2' f3) H H' → Q (.ref l) H'
def spPIn (a : Adr) : Sp := fun vs H Q _ => ∃ (p w dx f g h : Addr) (s : Int) (R S : Rooms) (bs : List Bool) (st : Nat) (f1 f2 f3 : List Addr) (ws : List Int) (c : Int), vs = [.ref p, .ref w, .int c] ∧ PlIn a H p dx f g h s R S bs st f1 f2 f3 ∧ H w = some (.lst (ws.map V.int)) ∧ w ∉ f1 ∧ 1 ≤ c ∧ OkW s ws ∧ 0 ∈ R.cs ∧
  ∀ f1' H', PlIn a H' p dx f g h s (R.set (idx0 R) (c, ws)) S (bs.set (idx0 R) true) st f1' f2 f3 → (∀ b ∈ f1, b ∈ f1') → Fr (plFp p f1 f2 f3) (plFp p f1' f2 f3) H H' → Q (.int (idx0 R : Nat)) H'
end K30

set_option maxHeartbeats 4000000
namespace K30
open PySem L2
def spPInit (a : Adr) : Sp := fun vs H Q E => ∃ (p dx : Addr) (n m s : Int), vs = [.ref p, .int n, .int m, .int s] ∧ H p = some (.ins a.c_Pool dx []) ∧
  ((1 ≤ s ∧ s ≤ 64) ∧ (1 ≤ n ∧ n ≤ 64) ∧ (0 ≤ m ∧ m ≤ 64) → ∀ H' fp, PlAt a H' p s (List.replicate n.toNat (0, [])) (List.replicate m.toNat (0, [])) (List.replicate n.toNat false) 0 fp → (∀ b u, H b = some u → b ≠ p → H' b = some u) → (∀ b, b ∈ fp → (b = p ∨ H b = none)) → Q .non H') ∧
  (¬ ((1 ≤ s ∧ s ≤ 64) ∧ (1 ≤ n ∧ n ≤ 64) ∧ (0 ≤ m ∧ m ≤ 64)) → ∀ H', (∀ b u, H b = some u → b ≠ p → H' b = some u) → E (.ref a.c_NoShape) none H')
theorem made_same {H H' : Hp} {y dy C : Addr} (hy : H y = none) (hdy : H dy = none) (fr : ∀ b u, upd (upd H dy (.own y)) y (.ins C dy []) b = some u → b ≠ y → H' b = some u) : Same H H' :=
  fun b u e => fr b u (by rw [upd_ne (ne_of_none e hy), upd_ne (ne_of_none e hdy)]; exact e) (ne_of_none e hy)
theorem made_new {H H' : Hp} {y dy C : Addr} {fp : List Addr} (hy : H y = none) (hdy : H dy = none) (nw : ∀ b, b ∈ fp → (b = y ∨ upd (upd H dy (.own y)) y (.ins C dy []) b = none) ∧ ∃ u, H' b = some u) : ∀ b ∈ fp, H b = none := fun b hb => by
  rcases (nw b hb).1 with q | q
  · rw [q]; exact hy
  · cases e : H b with
    | none => rfl
    | some u => rw [upd_ne (ne_of_none e hy), upd_ne (ne_of_none e hdy), e] at q; cases q
theorem made_err {H H' : Hp} {y dy C : Addr} (hy : H y = none) (hdy : H dy = none) (s : Same (upd (upd H dy (.own y)) y (.ins C dy [])) H') : Same H H' := fun b u e => s _ _ (by rw [upd_ne (ne_of_none e hy), upd_ne (ne_of_none e hdy)]; exact e)
theorem upd_none {H : Hp} {p b : Addr} {u v : HO} (hp : H p = some v) (h : upd H p u b = none) : H b = none := by
  by_cases c : b = p
  · rw [c, upd_same] at h; cases h
  · rw [upd_ne c] at h; exact h
section
variable {P : Program} {w : World} {K : PySem.W.Frag} {mg : Str → Option Value} {base : Heap} {a : Adr}
theorem ok_Pool___init__ {dvs : List V} (R : RawI K a.c_Pool "Pool.__init__" s_Pool___init__ ["self", "frames", "slots", "size"] dvs) (T : Txt K mg a)
    (h_Store___init__ : HasMk P w K mg base a.c_Store 3 ["self", "many", "size"] (spStInit a) [])
    (h_Hand___init__ : HasMk P w K mg base a.c_Hand 1 ["self", "many"] (spHInit a) []) :
    HasMk P w K mg base a.c_Pool 5 ["self", "frames", "slots", "size"] (spPInit a) dvs := by
  refine R.ok sc_Pool___init__ (fun vs H Q E h => ?_) (fun f cdv A outer s H vs Q E hr h => ?_)
  · obtain ⟨p, dx, n, m, s, rfl, _⟩ := h
    rfl
  obtain ⟨p, dx, n, m, s, rfl, hp, k1, k2⟩ := h
  refine ⟨_, (@pss_cons _ _ _ _ _ (ps_fld (pv 0) (pe_mk h_Store___init__ (hr.mono (by decide)) (by rfl) T.m_Store pass_def (@pa_cn _ _ _ _ _ (pv 1) (@pa_cn _ _ _ _ _ (pv 3) pa_nil rfl) rfl)) rfl)
      (@pss_cons _ _ _ _ _ (ps_fld (pv 0) (pe_mk h_Store___init__ (hr.mono (by decide)) (by rfl) T.m_Store pass_def (@pa_cn _ _ _ _ _ (pv 2) (@pa_cn _ _ _ _ _ (pv 3) pa_nil rfl) rfl)) rfl)
      (@pss_cons _ _ _ _ _ (ps_fld (pv 0) (pe_mk h_Hand___init__ (hr.mono (by decide)) (by rfl) T.m_Hand pass_def (@pa_cn _ _ _ _ _ (pv 1) pa_nil rfl)) rfl)
      (@pss_one _ _ _ (ps_fld (pv 0) (pv 3) rfl))))), ?_⟩
  have t1 := T.cl_Pool; have t2 := T.n_Pool_frame_store; have t3 := T.n_Pool_slot_store; have t4 := T.n_Pool_hand; have t5 := T.n_Pool_length
  walk_at "go"
  refine fun x1 dx1 hx1 hdx1 ne1 => ⟨x1, dx1, n, s, rfl, upd_same, fun ok1 H1 fp1 S1 fr1 nw1 => ⟨rfl, ?_⟩, fun bad H1 s1 => k2 (fun z => bad ⟨z.1, ⟨by omega, z.2.1.2⟩⟩) H1 fun b u e nb => made_err hx1 hdx1 s1 _ _ e⟩
  have kp1 := made_same hx1 hdx1 fr1
  have nw1 := made_new hx1 hdx1 nw1
  have hp1 := kp1 _ _ hp
  have np1 : p ∉ fp1 := fun z => by have := nw1 p z; rw [hp] at this; cases this
  walk_at "go"
  have hpA : upd H1 p (.ins a.c_Pool dx (putF "frame_store" (.ref x1) [])) p = some (.ins a.c_Pool dx [("frame_store", .ref x1)]) := by rw [upd_same]; rfl
  have kpA : ∀ b u, H1 b = some u → b ≠ p → upd H1 p (.ins a.c_Pool dx (putF "frame_store" (.ref x1) [])) b = some u := fun b u e nb => by rw [upd_ne nb]; exact e
  have lvA : ∀ b, upd H1 p (.ins a.c_Pool dx (putF "frame_store" (.ref x1) [])) b = none → H1 b = none := fun b e => upd_none hp1 e
  generalize upd H1 p (.ins a.c_Pool dx (putF "frame_store" (.ref x1) [])) = HA at hpA kpA lvA
  refine fun x2 dx2 hx2 hdx2 ne2 => ⟨x2, dx2, m, s, rfl, upd_same, fun ok2 H2 fp2 S2 fr2 nw2 => ⟨rfl, ?_⟩, fun bad H2 s2 => k2 (fun z => bad ⟨z.1, z.2.2⟩) H2 fun b u e nb => made_err hx2 hdx2 s2 _ _ (kpA _ _ (kp1 _ _ e) nb)⟩
  have kp2 := made_same hx2 hdx2 fr2
  have nw2 := made_new hx2 hdx2 nw2
  have hp2 := kp2 _ _ hpA
  have np2 : p ∉ fp2 := fun z => by have := nw2 p z; rw [hpA] at this; cases this
  walk_at "go"
  have hpB : upd H2 p (.ins a.c_Pool dx (putF "slot_store" (.ref x2) [("frame_store", .ref x1)])) p = some (.ins a.c_Pool dx [("frame_store", .ref x1), ("slot_store", .ref x2)]) := by rw [upd_same]; rfl
  have kpB : ∀ b u, H2 b = some u → b ≠ p → upd H2 p (.ins a.c_Pool dx (putF "slot_store" (.ref x2) [("frame_store", .ref x1)])) b = some u := fun b u e nb => by rw [upd_ne nb]; exact e
  have lvB : ∀ b, upd H2 p (.ins a.c_Pool dx (putF "slot_store" (.ref x2) [("frame_store", .ref x1)])) b = none → H2 b = none := fun b e => upd_none hp2 e
  generalize upd H2 p (.ins a.c_Pool dx (putF "slot_store" (.ref x2) [("frame_store", .ref x1)])) = HB at hpB kpB lvB
  have kAB : ∀ b u, HA b = some u → b ≠ p → HB b = some u := fun b u e nb => kpB _ _ (kp2 _ _ e) nb
  have kHB : ∀ b u, H b = some u → b ≠ p → HB b = some u := fun b u e nb => kAB _ _ (kpA _ _ (kp1 _ _ e) nb) nb
  refine fun x3 dx3 hx3 hdx3 ne3 => ⟨x3, dx3, n, rfl, upd_same, fun ok3 H3 fp3 S3 fr3 nw3 => ⟨rfl, ?_⟩, fun bad => k2 (fun z => bad z.2.1) _ fun b u e nb => ?_⟩
  rotate_left
  · rw [upd_ne (ne_of_none (kHB _ _ e nb) hx3), upd_ne (ne_of_none (kHB _ _ e nb) hdx3)]
    exact kHB _ _ e nb
  have kp3 := made_same hx3 hdx3 fr3
  have nw3 := made_new hx3 hdx3 nw3
  have hp3 := kp3 _ _ hpB
  have np3 : p ∉ fp3 := fun z => by have := nw3 p z; rw [hpB] at this; cases this
  walk_at "go"
  have hpC : upd H3 p (.ins a.c_Pool dx (putF "hand" (.ref x3) [("frame_store", .ref x1), ("slot_store", .ref x2)])) p = some (.ins a.c_Pool dx [("frame_store", .ref x1), ("slot_store", .ref x2), ("hand", .ref x3)]) := by rw [upd_same]; rfl
  have kpC : ∀ b u, H3 b = some u → b ≠ p → upd H3 p (.ins a.c_Pool dx (putF "hand" (.ref x3) [("frame_store", .ref x1), ("slot_store", .ref x2)])) b = some u := fun b u e nb => by rw [upd_ne nb]; exact e
  have lvC : ∀ b, upd H3 p (.ins a.c_Pool dx (putF "hand" (.ref x3) [("frame_store", .ref x1), ("slot_store", .ref x2)])) b = none → H3 b = none := fun b e => upd_none hp3 e
  generalize upd H3 p (.ins a.c_Pool dx (putF "hand" (.ref x3) [("frame_store", .ref x1), ("slot_store", .ref x2)])) = HC at hpC kpC lvC
  walk_at "go"
  have hpD : upd HC p (.ins a.c_Pool dx (putF "length" (.int s) (putF "hand" (.ref x3) [("frame_store", .ref x1), ("slot_store", .ref x2)]))) p = some (.ins a.c_Pool dx [("frame_store", .ref x1), ("slot_store", .ref x2), ("hand", .ref x3), ("length", .int s)]) := by rw [upd_same]; rfl
  have kpD : ∀ b u, HC b = some u → b ≠ p → upd HC p (.ins a.c_Pool dx (putF "length" (.int s) (putF "hand" (.ref x3) [("frame_store", .ref x1), ("slot_store", .ref x2)]))) b = some u := fun b u e nb => by rw [upd_ne nb]; exact e
  have lvD : ∀ b, upd HC p (.ins a.c_Pool dx (putF "length" (.int s) (putF "hand" (.ref x3) [("frame_store", .ref x1), ("slot_store", .ref x2)]))) b = none → HC b = none := fun b e => upd_none hpC e
  generalize upd HC p (.ins a.c_Pool dx (putF "length" (.int s) (putF "hand" (.ref x3) [("frame_store", .ref x1), ("slot_store", .ref x2)]))) = HD at hpD kpD lvD
  have kBD : ∀ b u, HB b = some u → b ≠ p → HD b = some u := fun b u e nb => kpD _ _ (kpC _ _ (kp3 _ _ e) nb) nb
  have kAD : ∀ b u, HA b = some u → b ≠ p → HD b = some u := fun b u e nb => kBD _ _ (kAB _ _ e nb) nb
  have n1 : ∀ b ∈ fp1, b ≠ p := fun b hb w => np1 (by rw [← w]; exact hb)
  have n2 : ∀ b ∈ fp2, b ≠ p := fun b hb w => np2 (by rw [← w]; exact hb)
  have n3 : ∀ b ∈ fp3, b ≠ p := fun b hb w => np3 (by rw [← w]; exact hb)
  have lv1 := S1.live
  have lv2 := S2.live
  have e1 : (List.replicate n.toNat false).length = (List.replicate n.toNat ((0 : Int), ([] : List Int))).length := by rw [List.length_replicate, List.length_replicate]
  refine k1 ⟨ok1.1, ok3, ok2.2⟩ HD (plFp p fp1 fp2 fp3) ⟨dx, x1, x2, x3, fp1, fp2, fp3, ⟨hpD, S1.eqv fun b u e m => kAD _ _ (kpA _ _ e (n1 b m)) (n1 b m), S2.eqv fun b u e m => kBD _ _ (kpB _ _ e (n2 b m)) (n2 b m), S3.eqv fun b u e m => kpD _ _ (kpC _ _ e (n3 b m)) (n3 b m), e1, Wds.fresh _, Wds.fresh _, np1, np2, np3, fun b m1 m2 => ?_, fun b m1 m2 => ?_, fun b m1 m2 => ?_⟩, rfl⟩ (fun b u e nb => kBD _ _ (kHB _ _ e nb) nb) (fun b hb => ?_)
  · obtain ⟨u, e⟩ := lv1 b m1
    have := nw2 b m2
    rw [kpA _ _ e (n1 b m1)] at this; cases this
  · obtain ⟨u, e⟩ := lv1 b m1
    have := nw3 b m2
    rw [kAB _ _ (kpA _ _ e (n1 b m1)) (n1 b m1)] at this; cases this
  · obtain ⟨u, e⟩ := lv2 b m1
    have := nw3 b m2
    rw [kpB _ _ e (n2 b m1)] at this; cases this
  · have back : ∀ b, HB b = none → H b = none := fun b e => by
      have e2 := lvB b e
      have eA : HA b = none := by
        cases q : HA b with
        | none => rfl
        | some u => rw [kp2 _ _ q] at e2; cases e2
      have e1 := lvA b eA
      cases q : H b with
      | none => rfl
      | some u => rw [kp1 _ _ q] at e1; cases e1
    have backA : ∀ b, HA b = none → H b = none := fun b e => by
      have e1 := lvA b e
      cases q : H b with
      | none => rfl
      | some u => rw [kp1 _ _ q] at e1; cases e1
    rcases mem_plFp.mp hb with w | w | w | w
    · exact .inl w
    · exact .inr (nw1 b w)
    · exact .inr (backA b (nw2 b w))
    · exact .inr (back b (nw3 b w))
theorem ok_Pool_room {dvs : List V} (R : RawM K a.c_Pool "room" "Pool.room" s_Pool_room ["self"] dvs) (T : Txt K mg a)
    (h_Store_free : HasMe P w K mg base a.c_Store 2 "free" ["self"] (spStFree a) []) :
    HasMe P w K mg base a.c_Pool 3 "room" ["self"] (spPRoom a) dvs := by
  refine R.ok sc_Pool_room (fun vs H Q E h => ?_) (fun f cdv A outer s H vs Q E hr h => ?_)
  · obtain ⟨p, s, R, S, bs, st, fp, rfl, _⟩ := h
    rfl
  obtain ⟨p, s, R, S, bs, st, fp, rfl, P, k⟩ := h
  refine ⟨_, (@pss_one _ _ _ (@ps_ret _ _ _ _ (pe_op op_add (pe_me0 (pe_fld (pv 0) rfl) T.cl_Store h_Store_free (hr.mono (by decide)) pass_def) (pe_me0 (pe_fld (pv 0) rfl) T.cl_Store h_Store_free (hr.mono (by decide)) pass_def)))), ?_⟩
  obtain ⟨dx, f, g, h, f1, f2, f3, P, rfl⟩ := P
  have t1 := T.cl_Pool; have t2 := T.n_Pool_frame_store; have t3 := T.n_Pool_slot_store
  have t6 := T.cl_Store
  have hp := P.ob
  have S1 := P.s1
  have S2 := P.s2
  obtain ⟨dx1, _, _, _, _, q1⟩ := id S1
  obtain ⟨dx2, _, _, _, _, q2⟩ := id S2
  have o1 := q1.ob
  have o2 := q2.ob
  walk_at "go"
  exact k
theorem ok_Pool_put_out {dvs : List V} (R : RawM K a.c_Pool "put_out" "Pool.put_out" s_Pool_put_out ["self"] dvs) (T : Txt K mg a)
    (h_Store_free : HasMe P w K mg base a.c_Store 2 "free" ["self"] (spStFree a) [])
    (h_Hand_chosen : HasMe P w K mg base a.c_Hand 2 "chosen" ["self"] (spChosen a) [])
    (h_Store_gone : HasMe P w K mg base a.c_Store 4 "gone" ["self", "number"] (spGone a) [])
    (h_Store_made : HasMe P w K mg base a.c_Store 4 "made" ["self", "words", "count"] (spMade a) []) :
    HasMe P w K mg base a.c_Pool 5 "put_out" ["self"] (spPOut a) dvs := by
  refine R.ok sc_Pool_put_out (fun vs H Q E h => ?_) (fun f cdv A outer s H vs Q E hr h => ?_)
  · obtain ⟨p, dx, f, g, h, s, R, S, bs, st, f1, f2, f3, rfl, _⟩ := h
    rfl
  obtain ⟨p, dx, f, g, h, s, R, S, bs, st, f1, f2, f3, rfl, P, rm, k⟩ := h
  refine ⟨_, (@pss_cons _ _ _ _ _ (ps_if (pt_cmpR op_gt (pe_me0 (pe_fld (pv 0) rfl) T.cl_Store h_Store_free (hr.mono (by decide)) pass_def) pe_int (nomark _)) (@pss_one _ _ _ (@ps_ret _ _ _ _ (@pe_lst _ _ _ _ pa_nil))) pss_nil)
      (@pss_cons _ _ _ _ _ (@ps_set _ _ 1 _ _ _ _ sc_Pool_put_out.nd rfl (by first | exact Or.inl rfl | exact Or.inr rfl) (pe_me0 (pe_fld (pv 0) rfl) T.cl_Hand h_Hand_chosen (hr.mono (by decide)) pass_def) (by rfl) (by first | exact Or.inl rfl | exact Or.inr rfl))
      (@pss_cons _ _ _ _ _ (@ps_set _ _ 2 _ _ _ _ sc_Pool_put_out.nd rfl (by first | exact Or.inl rfl | exact Or.inr rfl) (pe_me (pe_fld (pv 0) rfl) T.cl_Store h_Store_gone (hr.mono (by decide)) pass_def (@pa_cn _ _ _ _ _ (pv 1) pa_nil rfl)) (by rfl) (by first | exact Or.inl rfl | exact Or.inr rfl))
      (@pss_one _ _ _ (@ps_ret _ _ _ _ (@pe_lst _ _ _ _ (@pa_cn _ _ _ _ _ (@pe_tup _ _ _ _ _ (@pa_cn _ _ _ _ _ pe_str (@pa_cn _ _ _ _ _ (pv 1) (@pa_cn _ _ _ _ _ (pe_me (pe_fld (pv 0) rfl) T.cl_Store h_Store_made (hr.mono (by decide)) pass_def (@pa_cn _ _ _ _ _ (@pe_ix _ _ _ _ _ _ _ ix_tup (pv 2) pe_int (fun _ _ => rfl)) (@pa_cn _ _ _ _ _ (@pe_ix _ _ _ _ _ _ _ ix_tup (pv 2) pe_int (fun _ _ => rfl)) pa_nil rfl) rfl)) pa_nil rfl) rfl) rfl)) pa_nil rfl))))))), ?_⟩
  have t1 := T.cl_Pool; have t2 := T.n_Pool_frame_store; have t3 := T.n_Pool_slot_store; have t4 := T.n_Pool_hand
  have t6 := T.cl_Store; have t7 := T.cl_Hand
  have hp := P.ob
  have S1 := P.s1
  have S2 := P.s2
  have S3 := P.s3
  obtain ⟨dx1, _, _, _, _, q1⟩ := id S1
  obtain ⟨dx2, _, _, _, _, q2⟩ := id S2
  obtain ⟨dx3, m3, q3⟩ := id S3
  have o1 := q1.ob
  have o2 := q2.ob
  have o3 := q3.ob
  walk_at "go"
  refine iteD (fun z => ?_) (fun z => ?_)
  · have z0 : 0 ∈ R.cs := List.count_pos_iff.mp (by omega)
    have e1 : outR R S bs st = R := if_pos z0
    have e2 : outS R S bs st = S := if_pos z0
    have e3 : outB R S bs st = bs := if_pos z0
    have e4 : outT R S bs st = st := if_pos z0
    have e5 : outM R S bs st = [] := if_pos z0
    rw [e1, e2, e3, e4, e5] at k
    walk_at "go"
    intro l hl
    have s1 : Same H (upd H l (.lst [])) := same_upd hl
    exact k l [] f2 _ (P.same s1) ⟨upd_same, rfl, fun i t m e => (by cases e)⟩ hl (fun t ht => (by cases ht)) (fun b hb => ⟨fun w => (by obtain ⟨u, e⟩ := P.s2.live b hb; rw [w, hl] at e; cases e), fun w => (by cases w)⟩) (fun b hb => hb) (Fr.same s1)
  · have z0 : 0 ∉ R.cs := fun w => z (by have := List.count_pos_iff.mpr w; omega)
    have z2 : 0 ∈ S.cs := rm.resolve_left z0
    have e1 : outR R S bs st = R.set (chs bs st) (0, rowOf R (chs bs st)) := if_neg z0
    have e2 : outS R S bs st = S.set (idx0 S) (cntOf R (chs bs st), rowOf R (chs bs st)) := if_neg z0
    have e3 : outB R S bs st = (sweep (bs.count true) bs st).1 := if_neg z0
    have e4 : outT R S bs st = (chs bs st + 1) % bs.length := if_neg z0
    have e5 : outM R S bs st = [(true, (chs bs st : Int), (idx0 S : Int))] := if_neg z0
    rw [e1, e2, e3, e4, e5] at k
    have sl := sweep_len (bs.count true) bs st q3.lt
    walk_at "go"
    intro H1 S31 fr1
    have P1 := P.ch3 S31 fr1 sl.1
    have cl : chs bs st < R.length := by rw [← P.ln]; exact sl.2
    have us : Used R (chs bs st : Int) := ⟨⟨by omega, by rw [List.length_map]; omega⟩, fun w => z0 (by
      rw [← w, Int.toNat_natCast, List.getD_eq_getElem?_getD, List.getElem?_eq_getElem (by rw [List.length_map]; exact cl)]
      exact List.getElem_mem _)⟩
    have hp1 := P1.ob
    have S11 := P1.s1
    have o11 := fr1.1 _ _ o1 (fun w => P.a13 _ q1.fpp w)
    have o21 := fr1.1 _ _ o2 (fun w => P.a23 _ q2.fpp w)
    walk_at "go"
    refine ⟨fun _ T' x H2 hT hx xf hTn S12 _ fr2 => ?_, fun z => absurd us z⟩
    change H2 T' = some (.tup [.ref x, .int (cntOf R (chs bs st))]) at hT
    change H2 x = some (.lst ((rowOf R (chs bs st)).map V.int)) at hx
    change StAt a H2 f s (R.set (chs bs st : Int).toNat (0, rowOf R (chs bs st))) f1 at S12
    rw [Int.toNat_natCast] at S12
    have wr := P.w1.rowOf us
    have rl := P.s1.rowlen us
    have P2 := P1.ch1 S12 fr2 (by rw [List.length_set]) (P1.w1.set (Int.le_refl _) fun w => absurd rfl w)
    have hp2 := P2.ob
    have S22 := P2.s2
    have o22 := fr2.1 _ _ o21 (fun w => P.a12 _ w q2.fpp)
    have xn : x ∉ f2 := P.a12 x xf
    have c1 := wr.2
    have a0 : atI [V.ref x, V.int (cntOf R (chs bs st))] 0 = some (.ref x) := rfl
    have a1 : atI [V.ref x, V.int (cntOf R (chs bs st))] 1 = some (.int (cntOf R (chs bs st))) := rfl
    have ok : ((rowOf R (chs bs st)).length : Int) = s ∧ ∀ y ∈ rowOf R (chs bs st), IsWord y := ⟨rl, wr.1⟩
    walk_at "go"
    refine ⟨fun _ _ H3 f2' S23 fr3 sb3 => ?_, fun _ w => absurd z2 w, fun w => absurd ok w⟩
    have P3 := P2.ch2 S23 fr3 (P2.w2.set (by omega) fun _ => wr.1)
    walk_at "go"
    intro t ht
    have s4 : Same H3 (upd H3 t (.tup [.str "out", .int (chs bs st : Int), .int (idx0 S : Int)])) := same_upd ht
    have e4 : upd H3 t (.tup [.str "out", .int (chs bs st : Int), .int (idx0 S : Int)]) t = some (.tup [.str "out", .int (chs bs st : Int), .int (idx0 S : Int)]) := upd_same
    have lv3 : ∀ b, H3 b = none → H b = none := fun b hb => by
      cases e : H b with
      | none => rfl
      | some u =>
        have e1 : ∃ u, H1 b = some u := by
          by_cases c : b ∈ f3
          · exact S31.live b c
          · exact ⟨u, fr1.1 _ _ e c⟩
        obtain ⟨u1, e1⟩ := e1
        have e2 : ∃ u, H2 b = some u := by
          by_cases c : b ∈ f1
          · exact S12.live b c
          · exact ⟨u1, fr2.1 _ _ e1 c⟩
        obtain ⟨u2, e2⟩ := e2
        by_cases c : b ∈ f2
        · obtain ⟨u3, e3⟩ := S23.live b (sb3 b c); rw [hb] at e3; cases e3
        · rw [fr3.1 _ _ e2 c] at hb; cases hb
    have t0 : H t = none := lv3 t ht
    generalize hH4 : upd H3 t (.tup [.str "out", .int (chs bs st : Int), .int (idx0 S : Int)]) = H4 at s4 e4
    have hH4' : upd H3 t (.tup [V.str (Str.ofString "out"), V.int ((sweep (bs.count true) bs st).2 : Nat), V.int (S.cs.idxOf 0 : Nat)]) = H4 := hH4
    rw [hH4']
    walk_at "go"
    intro l hl
    have s5 : Same H4 (upd H4 l (.lst [V.ref t])) := same_upd hl
    have s45 := s4.trans s5
    have l3 : H3 l = none := by
      cases e : H3 l with
      | none => rfl
      | some u => rw [s4 _ _ e] at hl; cases hl
    refine k l [t] f2' _ (P3.same s45) ⟨upd_same, rfl, fun i u m e1 e2 => ?_⟩ (lv3 l l3) (fun u hu => (by rw [List.mem_singleton.mp hu]; exact t0)) (fun b hb => ?_) sb3 ((((Fr.pl3 fr1).trans (Fr.pl1 fr2)).trans (Fr.pl2 fr3)).trans (Fr.same s45))
    · match i, e1, e2 with
      | 0, e1, e2 => cases e1; cases e2; exact s5 _ _ e4
    · obtain ⟨u, e⟩ := S23.live b hb
      exact ⟨ne_of_none e l3, fun w => by rw [List.mem_singleton.mp w, ht] at e; cases e⟩
theorem ok_Pool_brought_in {dvs : List V} (R : RawM K a.c_Pool "brought_in" "Pool.brought_in" s_Pool_brought_in ["self", "words", "count"] dvs) (T : Txt K mg a)
    (h_Store_made : HasMe P w K mg base a.c_Store 4 "made" ["self", "words", "count"] (spMade a) [])
    (h_Hand_mark : HasMe P w K mg base a.c_Hand 1 "mark" ["self", "frame"] (spMark a true) []) :
    HasMe P w K mg base a.c_Pool 5 "brought_in" ["self", "words", "count"] (spPIn a) dvs := by
  refine R.ok sc_Pool_brought_in (fun vs H Q E h => ?_) (fun f cdv A outer s H vs Q E hr h => ?_)
  · obtain ⟨p, w', dx, f, g, h, s, R, S, bs, st, f1, f2, f3, ws, c, rfl, _⟩ := h
    rfl
  obtain ⟨p, w', dx, f, g, h, s, R, S, bs, st, f1, f2, f3, ws, c, rfl, P, hw, nw, c1, ok, z0, k⟩ := h
  refine ⟨_, (@pss_cons _ _ _ _ _ (@ps_set _ _ 3 _ _ _ _ sc_Pool_brought_in.nd rfl (by first | exact Or.inl rfl | exact Or.inr rfl) (pe_me (pe_fld (pv 0) rfl) T.cl_Store h_Store_made (hr.mono (by decide)) pass_def (@pa_cn _ _ _ _ _ (pv 1) (@pa_cn _ _ _ _ _ (pv 2) pa_nil rfl) rfl)) (by rfl) (by first | exact Or.inl rfl | exact Or.inr rfl))
      (@pss_cons _ _ _ _ _ (ps_expr (pe_me (pe_fld (pv 0) rfl) T.cl_Hand h_Hand_mark (hr.mono (by decide)) pass_def (@pa_cn _ _ _ _ _ (pv 3) pa_nil rfl)))
      (@pss_one _ _ _ (@ps_ret _ _ _ _ (pv 3))))), ?_⟩
  have t1 := T.cl_Pool; have t2 := T.n_Pool_frame_store; have t4 := T.n_Pool_hand
  have t6 := T.cl_Store; have t7 := T.cl_Hand
  have hp := P.ob
  have S1 := P.s1
  obtain ⟨dx1, _, _, _, _, q1⟩ := id S1
  have o1 := q1.ob
  walk_at "go"
  refine ⟨fun _ _ H1 f1' S1' fr sb => ?_, fun _ z => absurd z0 z, fun z => absurd ok z⟩
  have P1 := P.ch1 S1' fr (by rw [List.length_set]) (P.w1.set (by omega) fun _ => ok.2)
  have hp1 := P1.ob
  have S31 := P1.s3
  obtain ⟨dx3, m3, q3⟩ := id S31
  have o3 := q3.ob
  have il : R.cs.idxOf 0 < R.length := by have := List.idxOf_lt_length_of_mem z0; rw [List.length_map] at this; exact this
  have i0 : (0 : Int) ≤ ((R.cs.idxOf 0 : Nat) : Int) := by omega
  have i1 : ((R.cs.idxOf 0 : Nat) : Int) < (bs.length : Int) := by have := P.ln; omega
  walk_at "go"
  intro H2 S32 fr2
  walk_at "go"
  rw [Int.toNat_natCast] at S32
  exact k f1' H2 (P1.ch3 S32 fr2 (by rw [List.length_set])) sb ((Fr.pl1 fr).trans (Fr.pl3 fr2))
end
end K30

set_option maxHeartbeats 4000000
namespace K30
open PySem L2
theorem none_ofG {H H' : Hp} {q : Addr} (s : Same H H') (h : H' q = none) : H q = none := by
  cases e : H q with
  | none => rfl
  | some u => rw [s _ _ e] at h; cases h
theorem out_free {R S : Rooms} {bs : List Bool} {st : Nat} (ln : bs.length = R.length) (hs : st < bs.length) : 0 ∈ (outR R S bs st).cs := by
  unfold outR
  split
  · next h => exact h
  · rw [Rooms.cs_set]
    have := (sweep_len (bs.count true) bs st hs).2
    refine List.mem_iff_getElem.mpr ⟨chs bs st, ?_, ?_⟩
    · rw [List.length_set, List.length_map]; unfold chs; omega
    · rw [List.getElem_set_self]
theorem putRow_wds {R : Rooms} {n i v : Int} (w : Wds R) (u : Used R n) (hv : IsWord v) : Wds (putRow R n i v) := by
  unfold putRow
  have r := w.rowOf u
  refine w.set (by have := r.2; unfold cntOf at this; omega) fun _ x hx => ?_
  rcases List.mem_or_eq_of_mem_set hx with q | q
  · exact r.1 x q
  · rw [q]; exact hv
def madeR (R S : Rooms) (bs : List Bool) (st : Nat) (c : Int) (ws : List Int) : Rooms := (outR R S bs st).set (idx0 (outR R S bs st)) (c, ws)
def madeB (R S : Rooms) (bs : List Bool) (st : Nat) : List Bool := (outB R S bs st).set (idx0 (outR R S bs st)) true
def spPMade (a : Adr) : Sp := fun vs H Q E => ∃ (p w : Addr) (s : Int) (R S : Rooms) (bs : List Bool) (st : Nat) (fp : List Addr) (ws : List Int), vs = [.ref p, .ref w] ∧ PlAt a H p s R S bs st fp ∧ H w = some (.lst (ws.map V.int)) ∧ w ∉ fp ∧
  (OkW s ws → 0 ∈ R.cs ∨ 0 ∈ S.cs → ∀ T l ts fp' H', H' T = some (.tup [.int (idx0 (outR R S bs st) : Nat), .ref l]) → MvAt H' l ts (outM R S bs st) → PlAt a H' p s (madeR R S bs st 1 ws) (outS R S bs st) (madeB R S bs st) (outT R S bs st) fp' → Fr fp fp' H H' → H T = none → H l = none → (∀ t ∈ ts, H t = none) → (∀ b ∈ fp', b ≠ T ∧ b ≠ l ∧ b ∉ ts) → (∀ b ∈ fp, b ∈ fp') → Q (.ref T) H') ∧
  (OkW s ws → ¬ (0 ∈ R.cs ∨ 0 ∈ S.cs) → E (.ref a.c_Full) none H) ∧ (¬ OkW s ws → E (.ref a.c_NoWord) none H)
def spPWord (a : Adr) : Sp := fun vs H Q E => ∃ (p : Addr) (s : Int) (R S : Rooms) (bs : List Bool) (st : Nat) (fp : List Addr) (n i : Int), vs = [.ref p, .int n, .int i] ∧ PlAt a H p s R S bs st fp ∧
  (Used R n → 0 ≤ i ∧ i < s → ∀ H', PlAt a H' p s R S (bs.set n.toNat true) st fp → Fr fp fp H H' → Q (.int ((rowOf R n).getD i.toNat 0)) H') ∧ (¬ Used R n → E (.ref a.c_NoNumber) none H) ∧ (Used R n → ¬ (0 ≤ i ∧ i < s) → E (.ref a.c_NoAddress) none H)
def spPPut (a : Adr) : Sp := fun vs H Q E => ∃ (p : Addr) (s : Int) (R S : Rooms) (bs : List Bool) (st : Nat) (fp : List Addr) (n i v : Int), vs = [.ref p, .int n, .int i, .int v] ∧ PlAt a H p s R S bs st fp ∧
  (Used R n → 0 ≤ i ∧ i < s → IsWord v → ∀ H', PlAt a H' p s (putRow R n i v) S (bs.set n.toNat true) st fp → Fr fp fp H H' → Q .non H') ∧
  (¬ Used R n → E (.ref a.c_NoNumber) none H) ∧ (Used R n → ¬ (0 ≤ i ∧ i < s) → E (.ref a.c_NoAddress) none H) ∧ (Used R n → 0 ≤ i ∧ i < s → ¬ IsWord v → E (.ref a.c_NoWord) none H)
def spPWords (a : Adr) : Sp := fun vs H Q E => ∃ (p x : Addr) (g : Lf) (s : Int) (R S : Rooms) (bs : List Bool) (st : Nat) (fp : List Addr), vs = [.ref p, .ref x] ∧ PlAt a H p s R S bs st fp ∧ LfAt a H x g ∧
  (∀ r f, g = .held r f → (Used R f → ∀ q, H q = none → Q (.ref q) (upd H q (.lst ((rowOf R f).map V.int)))) ∧ (¬ Used R f → E (.ref a.c_NoNumber) none H)) ∧
  (∀ r f, g = .out r f → (Used S f → ∀ q, H q = none → Q (.ref q) (upd H q (.lst ((rowOf S f).map V.int)))) ∧ (¬ Used S f → E (.ref a.c_NoNumber) none H)) ∧
  (g.kind = 0 ∨ g.kind = 3 → ∀ q H', H q = none → H' q = some (.lst ((List.replicate s.toNat (0 : Int)).map V.int)) → Same H H' → Q (.ref q) H')
def spPFrames (a : Adr) : Sp := fun vs H Q _ => ∃ (p : Addr) (s : Int) (R S : Rooms) (bs : List Bool) (st : Nat) (fp : List Addr), vs = [.ref p] ∧ PlAt a H p s R S bs st fp ∧ ∀ q, H q = none → Q (.ref q) (upd H q (.lst (R.cs.map V.int)))
def spPSlots (a : Adr) : Sp := fun vs H Q _ => ∃ (p : Addr) (s : Int) (R S : Rooms) (bs : List Bool) (st : Nat) (fp : List Addr), vs = [.ref p] ∧ PlAt a H p s R S bs st fp ∧ ∀ q, H q = none → Q (.ref q) (upd H q (.lst (S.cs.map V.int)))
def spPMarks (a : Adr) : Sp := fun vs H Q _ => ∃ (p : Addr) (s : Int) (R S : Rooms) (bs : List Bool) (st : Nat) (fp : List Addr), vs = [.ref p] ∧ PlAt a H p s R S bs st fp ∧ ∀ q, H q = none → Q (.ref q) (upd H q (.lst (bs.map V.bl)))
section
variable {P : Program} {w : World} {K : PySem.W.Frag} {mg : Str → Option Value} {base : Heap} {a : Adr}
theorem ok_Pool_made {dvs : List V} (R : RawM K a.c_Pool "made" "Pool.made" s_Pool_made ["self", "words"] dvs) (T : Txt K mg a)
    (h_Store_check_words : HasMe P w K mg base a.c_Store 3 "check_words" ["self", "words"] (spChkWords a) [])
    (h_Pool_room : HasMe P w K mg base a.c_Pool 3 "room" ["self"] (spPRoom a) [])
    (h_Pool_put_out : HasMe P w K mg base a.c_Pool 5 "put_out" ["self"] (spPOut a) [])
    (h_Pool_brought_in : HasMe P w K mg base a.c_Pool 5 "brought_in" ["self", "words", "count"] (spPIn a) []) :
    HasMe P w K mg base a.c_Pool 6 "made" ["self", "words"] (spPMade a) dvs := by
  refine R.ok sc_Pool_made (fun vs H Q E h => ?_) (fun f cdv A outer s H vs Q E hr h => ?_)
  · obtain ⟨p, w', s, R, S, bs, st, fp, ws, rfl, _⟩ := h
    rfl
  obtain ⟨p, w', s, R, S, bs, st, fp, ws, rfl, P, hw, nw, k1, k2, k3⟩ := h
  refine ⟨_, (@pss_cons _ _ _ _ _ (ps_expr (pe_me (pe_fld (pv 0) rfl) T.cl_Store h_Store_check_words (hr.mono (by decide)) pass_def (@pa_cn _ _ _ _ _ (pv 1) pa_nil rfl)))
      (@pss_cons _ _ _ _ _ (ps_if (pt_cmpR op_eq (pe_me0 (pv 0) T.cl_Pool h_Pool_room (hr.mono (by decide)) pass_def) pe_int (nomark _)) (@pss_one _ _ _ (ps_raise T.x_Full rfl (by rfl) T.m_Full pass_def (@pa_cn _ _ _ _ _ pe_str pa_nil rfl))) pss_nil)
      (@pss_cons _ _ _ _ _ (@ps_set _ _ 2 _ _ _ _ sc_Pool_made.nd rfl (by first | exact Or.inl rfl | exact Or.inr rfl) (pe_me0 (pv 0) T.cl_Pool h_Pool_put_out (hr.mono (by decide)) pass_def) (by rfl) (by first | exact Or.inl rfl | exact Or.inr rfl))
      (@pss_one _ _ _ (@ps_ret _ _ _ _ (@pe_tup _ _ _ _ _ (@pa_cn _ _ _ _ _ (pe_me (pv 0) T.cl_Pool h_Pool_brought_in (hr.mono (by decide)) pass_def (@pa_cn _ _ _ _ _ (pv 1) (@pa_cn _ _ _ _ _ pe_int pa_nil rfl) rfl)) (@pa_cn _ _ _ _ _ (pv 2) pa_nil rfl) rfl))))))), ?_⟩
  have PA := P
  obtain ⟨dx, f, g, h, f1, f2, f3, P, rfl⟩ := P
  have t1 := T.cl_Pool; have t2 := T.n_Pool_frame_store
  have t6 := T.cl_Store
  have hp := P.ob
  have S1 := P.s1
  obtain ⟨dx1, _, _, _, _, q1⟩ := id S1
  have o1 := q1.ob
  walk_at "go"
  refine ⟨fun ok => ?_, fun bad => k3 bad⟩
  have ok : OkW s ws := ok
  walk_at "go"
  refine iteI (fun z => ?_) (fun z => ?_)
  · have nr : ¬ (0 ∈ R.cs ∨ 0 ∈ S.cs) := fun w => by
      rcases w with w | w
      · have := List.count_pos_iff.mpr w; omega
      · have := List.count_pos_iff.mpr w; omega
    walk_at "go"
    exact k2 ok nr
  · have rm : 0 ∈ R.cs ∨ 0 ∈ S.cs := by
      by_cases c : 0 ∈ R.cs
      · exact .inl c
      · refine .inr (List.count_pos_iff.mp ?_)
        have := List.count_eq_zero.mpr c
        omega
    walk_at "go"
    intro l ts f2' H1 P1 M1 hl ht nb sb1 fr1
    have nw' : ∀ b, b ∈ f1 ∨ b ∈ f2 ∨ b ∈ f3 ∨ b = p → b ≠ w' := fun b hb z => nw (by
      rw [← z]
      refine mem_plFp.mpr ?_
      rcases hb with q | q | q | q
      · exact .inr (.inl q)
      · exact .inr (.inr (.inl q))
      · exact .inr (.inr (.inr q))
      · exact .inl q)
    have hw1 := fr1.1 _ _ hw nw
    have nw1 : w' ∉ f1 := fun z => nw' w' (.inl z) rfl
    have hp1 := P1.ob
    have one : (1 : Int) ≤ 1 := Int.le_refl _
    obtain ⟨dx3, m3, q3⟩ := id P.s3
    have z1 := out_free (S := S) P.ln q3.lt
    walk_at "go"
    intro f1' H2 P2 sb2 fr2
    walk_at "go"
    intro T' hT
    have s3 : Same H2 (upd H2 T' (.tup [.int (idx0 (outR R S bs st) : Nat), .ref l])) := same_upd hT
    have frA := fr1.trans fr2
    have sub : ∀ b ∈ plFp p f1 f2 f3, b ∈ plFp p f1' f2' f3 := fun b hb => by
      rcases mem_plFp.mp hb with q | q | q | q
      · exact mem_plFp.mpr (.inl q)
      · exact mem_plFp.mpr (.inr (.inl (sb2 b q)))
      · exact mem_plFp.mpr (.inr (.inr (.inl (sb1 b q))))
      · exact mem_plFp.mpr (.inr (.inr (.inr q)))
    have T0 : H T' = none := by
      cases e : H T' with
      | none => rfl
      | some u =>
        by_cases c : T' ∈ plFp p f1 f2 f3
        · obtain ⟨u, e'⟩ := P2.live T' (sub T' c)
          rw [hT] at e'; cases e'
        · rw [frA.1 _ _ e c] at hT; cases hT
    have nl1 : l ∉ plFp p f1 f2' f3 := fun z => by
      rcases mem_plFp.mp z with q | q | q | q
      · rw [q, hp] at hl; cases hl
      · obtain ⟨u, e⟩ := P.s1.live l q; rw [hl] at e; cases e
      · exact (nb l q).1 rfl
      · obtain ⟨u, e⟩ := P.s3.live l q; rw [hl] at e; cases e
    have nt1 : ∀ t ∈ ts, t ∉ plFp p f1 f2' f3 := fun t htt z => by
      rcases mem_plFp.mp z with q | q | q | q
      · rw [q] at htt; have := ht p htt; rw [hp] at this; cases this
      · obtain ⟨u, e⟩ := P.s1.live t q; rw [ht t htt] at e; cases e
      · exact (nb t q).2 htt
      · obtain ⟨u, e⟩ := P.s3.live t q; rw [ht t htt] at e; cases e
    have hl1 := M1.hl
    have hl2 := fr2.out hl1 nl1
    have at2 : ∀ (i : Nat) (t : Addr) (m : Mv), ts[i]? = some t → (outM R S bs st)[i]? = some m → H2 t = some (.tup (mvTup m)) ∧ t ∉ plFp p f1' f2' f3 := fun i t m e1 e2 => fr2.out (M1.at' i t m e1 e2) (nt1 t (List.mem_of_getElem? e1))
    refine k1 ok rm T' l ts (plFp p f1' f2' f3) _ upd_same ⟨s3 _ _ hl2.1, M1.len, fun i t m e1 e2 => s3 _ _ (at2 i t m e1 e2).1⟩ ⟨dx, f, g, h, f1', f2', f3, P2.same s3, rfl⟩ (frA.trans (Fr.same s3)) T0 hl ht (fun b hb => ⟨fun z => ?_, fun z => hl2.2 (z ▸ hb), fun z => ?_⟩) sub
    · obtain ⟨u, e⟩ := P2.live b hb
      rw [z, hT] at e; cases e
    · obtain ⟨i, hi, e⟩ := List.getElem_of_mem z
      have il : i < (outM R S bs st).length := by rw [← M1.len]; exact hi
      exact (at2 i b _ (by rw [List.getElem?_eq_getElem hi, e]) (List.getElem?_eq_getElem il)).2 hb
theorem ok_Pool_word {dvs : List V} (R : RawM K a.c_Pool "word" "Pool.word" s_Pool_word ["self", "frame", "place"] dvs) (T : Txt K mg a)
    (h_Store_word : HasMe P w K mg base a.c_Store 4 "word" ["self", "number", "place"] (spWordAt a) [])
    (h_Hand_mark : HasMe P w K mg base a.c_Hand 1 "mark" ["self", "frame"] (spMark a true) []) :
    HasMe P w K mg base a.c_Pool 5 "word" ["self", "frame", "place"] (spPWord a) dvs := by
  refine R.ok sc_Pool_word (fun vs H Q E h => ?_) (fun f cdv A outer s H vs Q E hr h => ?_)
  · obtain ⟨p, s, R, S, bs, st, fp, n, i, rfl, _⟩ := h
    rfl
  obtain ⟨p, s, R, S, bs, st, fp, n, i, rfl, P, k1, k2, k3⟩ := h
  refine ⟨_, (@pss_cons _ _ _ _ _ (@ps_set _ _ 3 _ _ _ _ sc_Pool_word.nd rfl (by first | exact Or.inl rfl | exact Or.inr rfl) (pe_me (pe_fld (pv 0) rfl) T.cl_Store h_Store_word (hr.mono (by decide)) pass_def (@pa_cn _ _ _ _ _ (pv 1) (@pa_cn _ _ _ _ _ (pv 2) pa_nil rfl) rfl)) (by rfl) (by first | exact Or.inl rfl | exact Or.inr rfl))
      (@pss_cons _ _ _ _ _ (ps_expr (pe_me (pe_fld (pv 0) rfl) T.cl_Hand h_Hand_mark (hr.mono (by decide)) pass_def (@pa_cn _ _ _ _ _ (pv 1) pa_nil rfl)))
      (@pss_one _ _ _ (@ps_ret _ _ _ _ (pv 3))))), ?_⟩
  obtain ⟨dx, f, g, h, f1, f2, f3, P, rfl⟩ := P
  have t1 := T.cl_Pool; have t2 := T.n_Pool_frame_store; have t4 := T.n_Pool_hand
  have t6 := T.cl_Store; have t7 := T.cl_Hand
  have hp := P.ob
  have S1 := P.s1
  have S3 := P.s3
  obtain ⟨dx1, _, _, _, _, q1⟩ := id S1
  obtain ⟨dx3, m3, q3⟩ := id S3
  have o1 := q1.ob
  have o3 := q3.ob
  walk_at "go"
  refine ⟨fun u b => ?_, fun u => k2 u, fun u b => k3 u b⟩
  have n0 := u.1.1
  have n1 : n < (bs.length : Int) := by rw [P.ln]; have := u.1.2; rw [List.length_map] at this; exact this
  walk_at "go"
  intro H1 S31 fr
  walk_at "go"
  exact k1 u b H1 ⟨dx, f, g, h, f1, f2, f3, P.ch3 S31 fr (by rw [List.length_set]), rfl⟩ (Fr.pl3 fr)
theorem ok_Pool_put {dvs : List V} (R : RawM K a.c_Pool "put" "Pool.put" s_Pool_put ["self", "frame", "place", "word"] dvs) (T : Txt K mg a)
    (h_Store_put : HasMe P w K mg base a.c_Store 4 "put" ["self", "number", "place", "word"] (spPut a) [])
    (h_Hand_mark : HasMe P w K mg base a.c_Hand 1 "mark" ["self", "frame"] (spMark a true) []) :
    HasMe P w K mg base a.c_Pool 5 "put" ["self", "frame", "place", "word"] (spPPut a) dvs := by
  refine R.ok sc_Pool_put (fun vs H Q E h => ?_) (fun f cdv A outer s H vs Q E hr h => ?_)
  · obtain ⟨p, s, R, S, bs, st, fp, n, i, v, rfl, _⟩ := h
    rfl
  obtain ⟨p, s, R, S, bs, st, fp, n, i, v, rfl, P, k1, k2, k3, k4⟩ := h
  refine ⟨_, (@pss_cons _ _ _ _ _ (ps_expr (pe_me (pe_fld (pv 0) rfl) T.cl_Store h_Store_put (hr.mono (by decide)) pass_def (@pa_cn _ _ _ _ _ (pv 1) (@pa_cn _ _ _ _ _ (pv 2) (@pa_cn _ _ _ _ _ (pv 3) pa_nil rfl) rfl) rfl)))
      (@pss_one _ _ _ (ps_expr (pe_me (pe_fld (pv 0) rfl) T.cl_Hand h_Hand_mark (hr.mono (by decide)) pass_def (@pa_cn _ _ _ _ _ (pv 1) pa_nil rfl))))), ?_⟩
  obtain ⟨dx, f, g, h, f1, f2, f3, P, rfl⟩ := P
  have t1 := T.cl_Pool; have t2 := T.n_Pool_frame_store; have t4 := T.n_Pool_hand
  have t6 := T.cl_Store; have t7 := T.cl_Hand
  have hp := P.ob
  have S1 := P.s1
  obtain ⟨dx1, _, _, _, _, q1⟩ := id S1
  have o1 := q1.ob
  walk_at "go"
  refine ⟨fun u b wv H1 S11 fr1 => ?_, fun u => k2 u, fun u b => k3 u b, fun u b wv => k4 u b wv⟩
  have P1 := P.ch1 S11 fr1 (by unfold putRow; rw [List.length_set]) (putRow_wds P.w1 u wv)
  have hp1 := P1.ob
  have S3 := P1.s3
  obtain ⟨dx3, m3, q3⟩ := id S3
  have o3 := q3.ob
  have n0 := u.1.1
  have n1 : n < (bs.length : Int) := by rw [P.ln]; have := u.1.2; rw [List.length_map] at this; exact this
  walk_at "go"
  intro H2 S32 fr2
  exact k1 u b wv H2 ⟨dx, f, g, h, f1, f2, f3, P1.ch3 S32 fr2 (by rw [List.length_set]), rfl⟩ ((Fr.pl1 fr1).trans (Fr.pl3 fr2))
theorem ok_Pool_words {dvs : List V} (R : RawM K a.c_Pool "words" "Pool.words" s_Pool_words ["self", "leaf"] dvs) (T : Txt K mg a)
    (h_Store_words : HasMe P w K mg base a.c_Store 3 "words" ["self", "number"] (spWords a) []) :
    HasMe P w K mg base a.c_Pool 4 "words" ["self", "leaf"] (spPWords a) dvs := by
  refine R.ok sc_Pool_words (fun vs H Q E h => ?_) (fun f cdv A outer s H vs Q E hr h => ?_)
  · obtain ⟨p, x, g', s, R, S, bs, st, fp, rfl, _⟩ := h
    rfl
  obtain ⟨p, x, g', s, R, S, bs, st, fp, rfl, P, lf, k1, k2, k3⟩ := h
  refine ⟨_, (@pss_cons _ _ _ _ _ (ps_if (pt_val (pe_callB call_isinst (by rfl) T.b_isinstance PyProof.Rows.Boot.«isinstance» (@pa_cn _ _ _ _ _ (pv 1) (@pa_cn _ _ _ _ _ (pe_glob (v := .ref a.c_Held) (by rfl) T.m_Held rfl) pa_nil rfl) rfl))) (@pss_one _ _ _ (@ps_ret _ _ _ _ (pe_me (pe_fld (pv 0) rfl) T.cl_Store h_Store_words (hr.mono (by decide)) pass_def (@pa_cn _ _ _ _ _ (pe_fld (pv 1) rfl) pa_nil rfl)))) pss_nil)
      (@pss_cons _ _ _ _ _ (ps_if (pt_val (pe_callB call_isinst (by rfl) T.b_isinstance PyProof.Rows.Boot.«isinstance» (@pa_cn _ _ _ _ _ (pv 1) (@pa_cn _ _ _ _ _ (pe_glob (v := .ref a.c_Out) (by rfl) T.m_Out rfl) pa_nil rfl) rfl))) (@pss_one _ _ _ (@ps_ret _ _ _ _ (pe_me (pe_fld (pv 0) rfl) T.cl_Store h_Store_words (hr.mono (by decide)) pass_def (@pa_cn _ _ _ _ _ (pe_fld (pv 1) rfl) pa_nil rfl)))) pss_nil)
      (@pss_one _ _ _ (@ps_ret _ _ _ _ (pe_op op_rep (@pe_lst _ _ _ _ (@pa_cn _ _ _ _ _ pe_int pa_nil rfl)) (pe_fld (pv 0) rfl)))))), ?_⟩
  obtain ⟨dx, f, g, h, f1, f2, f3, P, rfl⟩ := P
  have t1 := T.cl_Pool; have t2 := T.n_Pool_frame_store; have t3 := T.n_Pool_slot_store; have t9 := T.n_Pool_length
  have t6 := T.cl_Store
  have c1 := T.cl_Held; have c2 := T.cl_Out; have n1 := T.n_Held_frame; have n3 := T.n_Out_slot
  have kk1 := T.k_Held_Held; have kk3 := T.k_Out_Held; have kk4 := T.k_Out_Out
  have hp := P.ob
  have S1 := P.s1
  have S2 := P.s2
  obtain ⟨dx1, _, _, _, _, q1⟩ := id S1
  obtain ⟨dx2, _, _, _, _, q2⟩ := id S2
  have o1 := q1.ob
  have o2 := q2.ob
  obtain ⟨dl, hl⟩ := id lf
  cases g' with
  | fresh r =>
    have hx : H x = some (.ins a.c_Fresh dl [("rights", .int r)]) := hl
    have ty : TyE K H (.ref x) (.ref a.c_Fresh) := T.ti_Fresh hx
    have kk5 := T.k_Fresh_Held; have kk6 := T.k_Fresh_Out
    walk_at "go"
    intro p1 hp1
    have s1 : Same H (upd H p1 (.lst [V.int 0])) := same_upd hp1
    have e1 : upd H p1 (.lst [V.int 0]) p1 = some (.lst [V.int 0]) := upd_same
    generalize upd H p1 (.lst [V.int 0]) = H1 at s1 e1
    have hp' := s1 _ _ hp
    have sz := P.s1.sz
    have z1 : [V.int 0].length * s.toNat ≤ sizeLine := by rw [sizeLine_eq]; simp; omega
    walk_at "go"
    intro p2 hp2
    refine k3 (.inl rfl) p2 _ (none_ofG s1 hp2) ?_ (s1.trans (same_upd hp2))
    rw [upd_same, flat_one, List.map_replicate]
  | named r n f =>
    have hx : H x = some (.ins a.c_Named dl [("rights", .int r), ("name", .str n), ("part", .int f)]) := hl
    have ty : TyE K H (.ref x) (.ref a.c_Named) := T.ti_Named hx
    have kk5 := T.k_Named_Held; have kk6 := T.k_Named_Out
    walk_at "go"
    intro p1 hp1
    have s1 : Same H (upd H p1 (.lst [V.int 0])) := same_upd hp1
    have e1 : upd H p1 (.lst [V.int 0]) p1 = some (.lst [V.int 0]) := upd_same
    generalize upd H p1 (.lst [V.int 0]) = H1 at s1 e1
    have hp' := s1 _ _ hp
    have sz := P.s1.sz
    have z1 : [V.int 0].length * s.toNat ≤ sizeLine := by rw [sizeLine_eq]; simp; omega
    walk_at "go"
    intro p2 hp2
    refine k3 (.inr rfl) p2 _ (none_ofG s1 hp2) ?_ (s1.trans (same_upd hp2))
    rw [upd_same, flat_one, List.map_replicate]
  | held r n =>
    have hx : H x = some (.ins a.c_Held dl [("rights", .int r), ("frame", .int n)]) := hl
    have ty : TyE K H (.ref x) (.ref a.c_Held) := T.ti_Held hx
    walk_at "go"
    exact k1 r n rfl
  | out r n =>
    have hx : H x = some (.ins a.c_Out dl [("rights", .int r), ("slot", .int n)]) := hl
    have ty : TyE K H (.ref x) (.ref a.c_Out) := T.ti_Out hx
    walk_at "go"
    exact k2 r n rfl
theorem ok_Pool_frames {dvs : List V} (R : RawM K a.c_Pool "frames" "Pool.frames" s_Pool_frames ["self"] dvs) (T : Txt K mg a)
    (h_Store_counts : HasMe P w K mg base a.c_Store 2 "counts" ["self"] (spStCounts a) []) :
    HasMe P w K mg base a.c_Pool 3 "frames" ["self"] (spPFrames a) dvs := by
  refine R.ok sc_Pool_frames (fun vs H Q E h => ?_) (fun f cdv A outer s H vs Q E hr h => ?_)
  · obtain ⟨p, s, R, S, bs, st, fp, rfl, _⟩ := h
    rfl
  obtain ⟨p, s, R, S, bs, st, fp, rfl, P, k⟩ := h
  refine ⟨_, (@pss_one _ _ _ (@ps_ret _ _ _ _ (pe_me0 (pe_fld (pv 0) rfl) T.cl_Store h_Store_counts (hr.mono (by decide)) pass_def))), ?_⟩
  obtain ⟨dx, f, g, h, f1, f2, f3, P, rfl⟩ := P
  have t1 := T.cl_Pool; have t2 := T.n_Pool_frame_store; have t6 := T.cl_Store
  have hp := P.ob
  have S1 := P.s1
  obtain ⟨dx1, _, _, _, _, q1⟩ := id S1
  have o1 := q1.ob
  walk_at "go"
  exact k
theorem ok_Pool_slots {dvs : List V} (R : RawM K a.c_Pool "slots" "Pool.slots" s_Pool_slots ["self"] dvs) (T : Txt K mg a)
    (h_Store_counts : HasMe P w K mg base a.c_Store 2 "counts" ["self"] (spStCounts a) []) :
    HasMe P w K mg base a.c_Pool 3 "slots" ["self"] (spPSlots a) dvs := by
  refine R.ok sc_Pool_slots (fun vs H Q E h => ?_) (fun f cdv A outer s H vs Q E hr h => ?_)
  · obtain ⟨p, s, R, S, bs, st, fp, rfl, _⟩ := h
    rfl
  obtain ⟨p, s, R, S, bs, st, fp, rfl, P, k⟩ := h
  refine ⟨_, (@pss_one _ _ _ (@ps_ret _ _ _ _ (pe_me0 (pe_fld (pv 0) rfl) T.cl_Store h_Store_counts (hr.mono (by decide)) pass_def))), ?_⟩
  obtain ⟨dx, f, g, h, f1, f2, f3, P, rfl⟩ := P
  have t1 := T.cl_Pool; have t2 := T.n_Pool_slot_store; have t6 := T.cl_Store
  have hp := P.ob
  have S1 := P.s2
  obtain ⟨dx1, _, _, _, _, q1⟩ := id S1
  have o1 := q1.ob
  walk_at "go"
  exact k
theorem ok_Pool_marks {dvs : List V} (R : RawM K a.c_Pool "marks" "Pool.marks" s_Pool_marks ["self"] dvs) (T : Txt K mg a)
    (h_Hand_marks : HasMe P w K mg base a.c_Hand 1 "marks" ["self"] (spMarks a) []) :
    HasMe P w K mg base a.c_Pool 2 "marks" ["self"] (spPMarks a) dvs := by
  refine R.ok sc_Pool_marks (fun vs H Q E h => ?_) (fun f cdv A outer s H vs Q E hr h => ?_)
  · obtain ⟨p, s, R, S, bs, st, fp, rfl, _⟩ := h
    rfl
  obtain ⟨p, s, R, S, bs, st, fp, rfl, P, k⟩ := h
  refine ⟨_, (@pss_one _ _ _ (@ps_ret _ _ _ _ (pe_me0 (pe_fld (pv 0) rfl) T.cl_Hand h_Hand_marks (hr.mono (by decide)) pass_def))), ?_⟩
  obtain ⟨dx, f, g, h, f1, f2, f3, P, rfl⟩ := P
  have t1 := T.cl_Pool; have t2 := T.n_Pool_hand; have t6 := T.cl_Hand
  have hp := P.ob
  have S1 := P.s3
  obtain ⟨dx1, m1, q1⟩ := id S1
  have o1 := q1.ob
  walk_at "go"
  exact k
end
end K30

set_option maxHeartbeats 4000000
namespace K30
open PySem L2
theorem none_of' {H H' : Hp} {q : Addr} (s : Same H H') (h : H' q = none) : H q = none := by
  cases e : H q with
  | none => rfl
  | some u => rw [s _ _ e] at h; cases h
def onLf (g : Lf) (R S : Rooms) (P1 : Int → Prop) (P2 : Int → Prop) (N : Prop) : Prop := (∀ r f, g = .held r f → (Used R f → P1 f) ∧ (¬ Used R f → N)) ∧ (∀ r f, g = .out r f → (Used S f → P2 f) ∧ (¬ Used S f → N))
def spPCount (a : Adr) : Sp := fun vs H Q E => ∃ (p x : Addr) (g : Lf) (s : Int) (R S : Rooms) (bs : List Bool) (st : Nat) (fp : List Addr), vs = [.ref p, .ref x] ∧ PlAt a H p s R S bs st fp ∧ LfAt a H x g ∧
  onLf g R S (fun f => Q (.int (cntOf R f)) H) (fun f => Q (.int (cntOf S f)) H) (E (.ref a.c_NoNumber) none H) ∧ (g.kind = 0 ∨ g.kind = 3 → Q (.int 0) H)
def addR (R : Rooms) (f d : Int) : Rooms := R.set f.toNat (cntOf R f + d, rowOf R f)
def spPMore (a : Adr) : Sp := fun vs H Q E => ∃ (p x : Addr) (g : Lf) (s : Int) (R S : Rooms) (bs : List Bool) (st : Nat) (fp : List Addr), vs = [.ref p, .ref x] ∧ PlAt a H p s R S bs st fp ∧ LfAt a H x g ∧ x ∉ fp ∧
  onLf g R S (fun f => ∀ H', PlAt a H' p s (addR R f 1) S bs st fp → Fr fp fp H H' → Q .non H') (fun f => ∀ H', PlAt a H' p s R (addR S f 1) bs st fp → Fr fp fp H H' → Q .non H') (E (.ref a.c_NoNumber) none H) ∧ (g.kind = 0 ∨ g.kind = 3 → Q .non H)
def lessB (R : Rooms) (bs : List Bool) (f : Int) : List Bool := if cntOf R f - 1 = 0 then bs.set f.toNat false else bs
def spPLess (a : Adr) : Sp := fun vs H Q E => ∃ (p x : Addr) (g : Lf) (s : Int) (R S : Rooms) (bs : List Bool) (st : Nat) (fp : List Addr), vs = [.ref p, .ref x] ∧ PlAt a H p s R S bs st fp ∧ LfAt a H x g ∧ x ∉ fp ∧
  onLf g R S (fun f => ∀ H', PlAt a H' p s (addR R f (-1)) S (lessB R bs f) st fp → Fr fp fp H H' → Q .non H') (fun f => ∀ H', PlAt a H' p s R (addR S f (-1)) bs st fp → Fr fp fp H H' → Q .non H') (E (.ref a.c_NoNumber) none H) ∧ (g.kind = 0 ∨ g.kind = 3 → Q .non H)
def offS (S : Rooms) (n : Int) : Rooms := S.set n.toNat (0, rowOf S n)
def spPFetched (a : Adr) : Sp := fun vs H Q E => ∃ (p : Addr) (s : Int) (R S : Rooms) (bs : List Bool) (st : Nat) (fp : List Addr) (n : Int), vs = [.ref p, .int n] ∧ PlAt a H p s R S bs st fp ∧
  (Used S n → ∀ T l ts fp' H', H' T = some (.tup [.int (idx0 (outR R (offS S n) bs st) : Nat), .ref l]) → MvAt H' l ts (outM R (offS S n) bs st ++ [(false, (idx0 (outR R (offS S n) bs st) : Int), n)]) → PlAt a H' p s (madeR R (offS S n) bs st (cntOf S n) (rowOf S n)) (outS R (offS S n) bs st) (madeB R (offS S n) bs st) (outT R (offS S n) bs st) fp' → Fr fp fp' H H' → H T = none → H l = none → (∀ t ∈ ts, H t = none) → (∀ b ∈ fp', b ≠ T ∧ b ≠ l ∧ b ∉ ts) → Q (.ref T) H') ∧
  (¬ Used S n → E (.ref a.c_NoNumber) none H)
section
variable {P : Program} {w : World} {K : PySem.W.Frag} {mg : Str → Option Value} {base : Heap} {a : Adr}
theorem ok_Pool_count {dvs : List V} (R : RawM K a.c_Pool "count" "Pool.count" s_Pool_count ["self", "leaf"] dvs) (T : Txt K mg a)
    (h_Store_count : HasMe P w K mg base a.c_Store 3 "count" ["self", "number"] (spStCount a) []) :
    HasMe P w K mg base a.c_Pool 4 "count" ["self", "leaf"] (spPCount a) dvs := by
  refine R.ok sc_Pool_count (fun vs H Q E h => ?_) (fun f cdv A outer s H vs Q E hr h => ?_)
  · obtain ⟨p, x, g', s, R, S, bs, st, fp, rfl, _⟩ := h
    rfl
  obtain ⟨p, x, g', s, R, S, bs, st, fp, rfl, P, lf, ⟨k1, k2⟩, k3⟩ := h
  refine ⟨_, (@pss_cons _ _ _ _ _ (ps_if (pt_val (pe_callB call_isinst (by rfl) T.b_isinstance PyProof.Rows.Boot.«isinstance» (@pa_cn _ _ _ _ _ (pv 1) (@pa_cn _ _ _ _ _ (pe_glob (v := .ref a.c_Held) (by rfl) T.m_Held rfl) pa_nil rfl) rfl))) (@pss_one _ _ _ (@ps_ret _ _ _ _ (pe_me (pe_fld (pv 0) rfl) T.cl_Store h_Store_count (hr.mono (by decide)) pass_def (@pa_cn _ _ _ _ _ (pe_fld (pv 1) rfl) pa_nil rfl)))) pss_nil)
      (@pss_cons _ _ _ _ _ (ps_if (pt_val (pe_callB call_isinst (by rfl) T.b_isinstance PyProof.Rows.Boot.«isinstance» (@pa_cn _ _ _ _ _ (pv 1) (@pa_cn _ _ _ _ _ (pe_glob (v := .ref a.c_Out) (by rfl) T.m_Out rfl) pa_nil rfl) rfl))) (@pss_one _ _ _ (@ps_ret _ _ _ _ (pe_me (pe_fld (pv 0) rfl) T.cl_Store h_Store_count (hr.mono (by decide)) pass_def (@pa_cn _ _ _ _ _ (pe_fld (pv 1) rfl) pa_nil rfl)))) pss_nil)
      (@pss_one _ _ _ (@ps_ret _ _ _ _ pe_int)))), ?_⟩
  obtain ⟨dx, f, g, h, f1, f2, f3, P, rfl⟩ := P
  have t1 := T.cl_Pool; have t2 := T.n_Pool_frame_store; have t3 := T.n_Pool_slot_store
  have t6 := T.cl_Store
  have c1 := T.cl_Held; have c2 := T.cl_Out; have n1 := T.n_Held_frame; have n3 := T.n_Out_slot
  have kk1 := T.k_Held_Held; have kk3 := T.k_Out_Held; have kk4 := T.k_Out_Out
  have hp := P.ob
  have S1 := P.s1
  have S2 := P.s2
  obtain ⟨dx1, _, _, _, _, q1⟩ := id S1
  obtain ⟨dx2, _, _, _, _, q2⟩ := id S2
  have o1 := q1.ob
  have o2 := q2.ob
  obtain ⟨dl, hl⟩ := id lf
  cases g' with
  | fresh r =>
    have hx : H x = some (.ins a.c_Fresh dl [("rights", .int r)]) := hl
    have ty : TyE K H (.ref x) (.ref a.c_Fresh) := T.ti_Fresh hx
    have kk5 := T.k_Fresh_Held; have kk6 := T.k_Fresh_Out
    walk_at "go"
    exact k3 (.inl rfl)
  | named r n f =>
    have hx : H x = some (.ins a.c_Named dl [("rights", .int r), ("name", .str n), ("part", .int f)]) := hl
    have ty : TyE K H (.ref x) (.ref a.c_Named) := T.ti_Named hx
    have kk5 := T.k_Named_Held; have kk6 := T.k_Named_Out
    walk_at "go"
    exact k3 (.inr rfl)
  | held r n =>
    have hx : H x = some (.ins a.c_Held dl [("rights", .int r), ("frame", .int n)]) := hl
    have ty : TyE K H (.ref x) (.ref a.c_Held) := T.ti_Held hx
    walk_at "go"
    exact k1 r n rfl
  | out r n =>
    have hx : H x = some (.ins a.c_Out dl [("rights", .int r), ("slot", .int n)]) := hl
    have ty : TyE K H (.ref x) (.ref a.c_Out) := T.ti_Out hx
    walk_at "go"
    exact k2 r n rfl
theorem ok_Pool_more {dvs : List V} (R : RawM K a.c_Pool "more" "Pool.more" s_Pool_more ["self", "leaf"] dvs) (T : Txt K mg a)
    (h_Store_more : HasMe P w K mg base a.c_Store 4 "more" ["self", "number"] (spStMore a) []) :
    HasMe P w K mg base a.c_Pool 5 "more" ["self", "leaf"] (spPMore a) dvs := by
  refine R.ok sc_Pool_more (fun vs H Q E h => ?_) (fun f cdv A outer s H vs Q E hr h => ?_)
  · obtain ⟨p, x, g', s, R, S, bs, st, fp, rfl, _⟩ := h
    rfl
  obtain ⟨p, x, g', s, R, S, bs, st, fp, rfl, P, lf, nx, ⟨k1, k2⟩, k3⟩ := h
  refine ⟨_, (@pss_cons _ _ _ _ _ (ps_if (pt_val (pe_callB call_isinst (by rfl) T.b_isinstance PyProof.Rows.Boot.«isinstance» (@pa_cn _ _ _ _ _ (pv 1) (@pa_cn _ _ _ _ _ (pe_glob (v := .ref a.c_Held) (by rfl) T.m_Held rfl) pa_nil rfl) rfl))) (@pss_one _ _ _ (ps_expr (pe_me (pe_fld (pv 0) rfl) T.cl_Store h_Store_more (hr.mono (by decide)) pass_def (@pa_cn _ _ _ _ _ (pe_fld (pv 1) rfl) pa_nil rfl)))) pss_nil)
      (@pss_one _ _ _ (ps_if (pt_val (pe_callB call_isinst (by rfl) T.b_isinstance PyProof.Rows.Boot.«isinstance» (@pa_cn _ _ _ _ _ (pv 1) (@pa_cn _ _ _ _ _ (pe_glob (v := .ref a.c_Out) (by rfl) T.m_Out rfl) pa_nil rfl) rfl))) (@pss_one _ _ _ (ps_expr (pe_me (pe_fld (pv 0) rfl) T.cl_Store h_Store_more (hr.mono (by decide)) pass_def (@pa_cn _ _ _ _ _ (pe_fld (pv 1) rfl) pa_nil rfl)))) pss_nil))), ?_⟩
  obtain ⟨dx, f, g, h, f1, f2, f3, P, rfl⟩ := P
  have t1 := T.cl_Pool; have t2 := T.n_Pool_frame_store; have t3 := T.n_Pool_slot_store
  have t6 := T.cl_Store
  have c1 := T.cl_Held; have c2 := T.cl_Out; have n1 := T.n_Held_frame; have n3 := T.n_Out_slot
  have kk1 := T.k_Held_Held; have kk2 := T.k_Held_Out; have kk3 := T.k_Out_Held; have kk4 := T.k_Out_Out
  have hp := P.ob
  have S1 := P.s1
  have S2 := P.s2
  have nn1 := P.w1.nn
  have nn2 := P.w2.nn
  obtain ⟨dx1, _, _, _, _, q1⟩ := id S1
  obtain ⟨dx2, _, _, _, _, q2⟩ := id S2
  have o1 := q1.ob
  have o2 := q2.ob
  obtain ⟨dl, hl⟩ := id lf
  cases g' with
  | fresh r =>
    have hx : H x = some (.ins a.c_Fresh dl [("rights", .int r)]) := hl
    have ty : TyE K H (.ref x) (.ref a.c_Fresh) := T.ti_Fresh hx
    have kk5 := T.k_Fresh_Held; have kk6 := T.k_Fresh_Out
    walk_at "go"
    exact k3 (.inl rfl)
  | named r n f =>
    have hx : H x = some (.ins a.c_Named dl [("rights", .int r), ("name", .str n), ("part", .int f)]) := hl
    have ty : TyE K H (.ref x) (.ref a.c_Named) := T.ti_Named hx
    have kk5 := T.k_Named_Held; have kk6 := T.k_Named_Out
    walk_at "go"
    exact k3 (.inr rfl)
  | held r n =>
    have hx : H x = some (.ins a.c_Held dl [("rights", .int r), ("frame", .int n)]) := hl
    have ty : TyE K H (.ref x) (.ref a.c_Held) := T.ti_Held hx
    walk_at "go"
    refine ⟨fun u H1 S11 fr1 => ?_, fun u => (k1 r n rfl).2 u⟩
    have wr := P.w1.rowOf u
    have P1 := P.ch1 S11 fr1 (by rw [List.length_set]) (P.w1.set (by omega) fun _ => wr.1)
    have nx1 : x ∉ f1 := fun z => nx (mem_plFp.mpr (.inr (.inl z)))
    have hx1 := fr1.1 _ _ hx nx1
    have ty1 : TyE K H1 (.ref x) (.ref a.c_Held) := T.ti_Held hx1
    walk_at "go"
    exact (k1 r n rfl).1 u H1 ⟨dx, f, g, h, f1, f2, f3, P1, rfl⟩ (Fr.pl1 fr1)
  | out r n =>
    have hx : H x = some (.ins a.c_Out dl [("rights", .int r), ("slot", .int n)]) := hl
    have ty : TyE K H (.ref x) (.ref a.c_Out) := T.ti_Out hx
    walk_at "go"
    refine ⟨fun u H1 S11 fr1 => ?_, fun u => (k2 r n rfl).2 u⟩
    have wr := P.w2.rowOf u
    have P1 := P.ch2 S11 fr1 (P.w2.set (by omega) fun _ => wr.1)
    walk_at "go"
    exact (k2 r n rfl).1 u H1 ⟨dx, f, g, h, f1, f2, f3, P1, rfl⟩ (Fr.pl2 fr1)
theorem ok_Pool_less {dvs : List V} (R : RawM K a.c_Pool "less" "Pool.less" s_Pool_less ["self", "leaf"] dvs) (T : Txt K mg a)
    (h_Store_less : HasMe P w K mg base a.c_Store 4 "less" ["self", "number"] (spStLess a) [])
    (h_Hand_unmark : HasMe P w K mg base a.c_Hand 1 "unmark" ["self", "frame"] (spMark a false) []) :
    HasMe P w K mg base a.c_Pool 5 "less" ["self", "leaf"] (spPLess a) dvs := by
  refine R.ok sc_Pool_less (fun vs H Q E h => ?_) (fun f cdv A outer s H vs Q E hr h => ?_)
  · obtain ⟨p, x, g', s, R, S, bs, st, fp, rfl, _⟩ := h
    rfl
  obtain ⟨p, x, g', s, R, S, bs, st, fp, rfl, P, lf, nx, ⟨k1, k2⟩, k3⟩ := h
  refine ⟨_, (@pss_cons _ _ _ _ _ (ps_if (PW.pt (pw_and (pt_val (pe_callB call_isinst (by rfl) T.b_isinstance PyProof.Rows.Boot.«isinstance» (@pa_cn _ _ _ _ _ (pv 1) (@pa_cn _ _ _ _ _ (pe_glob (v := .ref a.c_Held) (by rfl) T.m_Held rfl) pa_nil rfl) rfl))) (pw_and1 (pt_cmpR op_eq (pe_me (pe_fld (pv 0) rfl) T.cl_Store h_Store_less (hr.mono (by decide)) pass_def (@pa_cn _ _ _ _ _ (pe_fld (pv 1) rfl) pa_nil rfl)) pe_int (nomark _))))) (@pss_one _ _ _ (ps_expr (pe_me (pe_fld (pv 0) rfl) T.cl_Hand h_Hand_unmark (hr.mono (by decide)) pass_def (@pa_cn _ _ _ _ _ (pe_fld (pv 1) rfl) pa_nil rfl)))) pss_nil)
      (@pss_one _ _ _ (ps_if (pt_val (pe_callB call_isinst (by rfl) T.b_isinstance PyProof.Rows.Boot.«isinstance» (@pa_cn _ _ _ _ _ (pv 1) (@pa_cn _ _ _ _ _ (pe_glob (v := .ref a.c_Out) (by rfl) T.m_Out rfl) pa_nil rfl) rfl))) (@pss_one _ _ _ (ps_expr (pe_me (pe_fld (pv 0) rfl) T.cl_Store h_Store_less (hr.mono (by decide)) pass_def (@pa_cn _ _ _ _ _ (pe_fld (pv 1) rfl) pa_nil rfl)))) pss_nil))), ?_⟩
  obtain ⟨dx, f, g, h, f1, f2, f3, P, rfl⟩ := P
  have t1 := T.cl_Pool; have t2 := T.n_Pool_frame_store; have t3 := T.n_Pool_slot_store; have t4 := T.n_Pool_hand
  have t6 := T.cl_Store; have t7 := T.cl_Hand
  have c1 := T.cl_Held; have c2 := T.cl_Out; have n1 := T.n_Held_frame; have n3 := T.n_Out_slot
  have kk1 := T.k_Held_Held; have kk2 := T.k_Held_Out; have kk3 := T.k_Out_Held; have kk4 := T.k_Out_Out
  have hp := P.ob
  have S1 := P.s1
  have S2 := P.s2
  obtain ⟨dx1, _, _, _, _, q1⟩ := id S1
  obtain ⟨dx2, _, _, _, _, q2⟩ := id S2
  have o1 := q1.ob
  have o2 := q2.ob
  obtain ⟨dl, hl⟩ := id lf
  cases g' with
  | fresh r =>
    have hx : H x = some (.ins a.c_Fresh dl [("rights", .int r)]) := hl
    have ty : TyE K H (.ref x) (.ref a.c_Fresh) := T.ti_Fresh hx
    have kk5 := T.k_Fresh_Held; have kk6 := T.k_Fresh_Out
    walk_at "go"
    exact k3 (.inl rfl)
  | named r n f =>
    have hx : H x = some (.ins a.c_Named dl [("rights", .int r), ("name", .str n), ("part", .int f)]) := hl
    have ty : TyE K H (.ref x) (.ref a.c_Named) := T.ti_Named hx
    have kk5 := T.k_Named_Held; have kk6 := T.k_Named_Out
    walk_at "go"
    exact k3 (.inr rfl)
  | held r n =>
    have hx : H x = some (.ins a.c_Held dl [("rights", .int r), ("frame", .int n)]) := hl
    have ty : TyE K H (.ref x) (.ref a.c_Held) := T.ti_Held hx
    walk_at "go"
    refine ⟨fun u H1 S11 fr1 => ?_, fun u => (k1 r n rfl).2 u⟩
    have wr := P.w1.rowOf u
    have P1 := P.ch1 S11 fr1 (by rw [List.length_set]) (P.w1.set (by omega) fun _ => wr.1)
    have nx1 : x ∉ f1 := fun z => nx (mem_plFp.mpr (.inr (.inl z)))
    have nx3 : x ∉ f3 := fun z => nx (mem_plFp.mpr (.inr (.inr (.inr z))))
    have hx1 := fr1.1 _ _ hx nx1
    have ty1 : TyE K H1 (.ref x) (.ref a.c_Held) := T.ti_Held hx1
    have hp1 := P1.ob
    have S31 := P1.s3
    obtain ⟨dx3, m3, q3⟩ := id S31
    have o3 := q3.ob
    have u0 := u.1.1
    have u1 : n < (bs.length : Int) := by rw [P.ln]; have := u.1.2; rw [List.length_map] at this; exact this
    have kk := (k1 r n rfl).1 u
    dsimp only at kk
    walk_at "go"
    refine iteI (fun z => ?_) (fun z => ?_)
    · have eb : lessB R bs n = bs.set n.toNat false := if_pos z
      rw [eb] at kk
      walk_at "go"
      intro H2 S32 fr2
      have hx2 := fr2.1 _ _ hx1 nx3
      have ty2 : TyE K H2 (.ref x) (.ref a.c_Held) := T.ti_Held hx2
      walk_at "go"
      exact kk H2 ⟨dx, f, g, h, f1, f2, f3, P1.ch3 S32 fr2 (by rw [List.length_set]), rfl⟩ ((Fr.pl1 fr1).trans (Fr.pl3 fr2))
    · have eb : lessB R bs n = bs := if_neg z
      rw [eb] at kk
      walk_at "go"
      exact kk H1 ⟨dx, f, g, h, f1, f2, f3, P1, rfl⟩ (Fr.pl1 fr1)
  | out r n =>
    have hx : H x = some (.ins a.c_Out dl [("rights", .int r), ("slot", .int n)]) := hl
    have ty : TyE K H (.ref x) (.ref a.c_Out) := T.ti_Out hx
    walk_at "go"
    refine ⟨fun u H1 S11 fr1 => ?_, fun u => (k2 r n rfl).2 u⟩
    have wr := P.w2.rowOf u
    have P1 := P.ch2 S11 fr1 (P.w2.set (by omega) fun _ => wr.1)
    walk_at "go"
    exact (k2 r n rfl).1 u H1 ⟨dx, f, g, h, f1, f2, f3, P1, rfl⟩ (Fr.pl2 fr1)
theorem ok_Pool_fetched {dvs : List V} (R : RawM K a.c_Pool "fetched" "Pool.fetched" s_Pool_fetched ["self", "slot"] dvs) (T : Txt K mg a)
    (h_Store_gone : HasMe P w K mg base a.c_Store 4 "gone" ["self", "number"] (spGone a) [])
    (h_Pool_put_out : HasMe P w K mg base a.c_Pool 5 "put_out" ["self"] (spPOut a) [])
    (h_Pool_brought_in : HasMe P w K mg base a.c_Pool 5 "brought_in" ["self", "words", "count"] (spPIn a) []) :
    HasMe P w K mg base a.c_Pool 6 "fetched" ["self", "slot"] (spPFetched a) dvs := by
  refine R.ok sc_Pool_fetched (fun vs H Q E h => ?_) (fun f cdv A outer s H vs Q E hr h => ?_)
  · obtain ⟨p, s, R, S, bs, st, fp, n, rfl, _⟩ := h
    rfl
  obtain ⟨p, s, R, S, bs, st, fp, n, rfl, P, k1, k2⟩ := h
  refine ⟨_, (@pss_cons _ _ _ _ _ (@ps_set _ _ 2 _ _ _ _ sc_Pool_fetched.nd rfl (by first | exact Or.inl rfl | exact Or.inr rfl) (pe_me (pe_fld (pv 0) rfl) T.cl_Store h_Store_gone (hr.mono (by decide)) pass_def (@pa_cn _ _ _ _ _ (pv 1) pa_nil rfl)) (by rfl) (by first | exact Or.inl rfl | exact Or.inr rfl))
      (@pss_cons _ _ _ _ _ (@ps_set _ _ 3 _ _ _ _ sc_Pool_fetched.nd rfl (by first | exact Or.inl rfl | exact Or.inr rfl) (pe_me0 (pv 0) T.cl_Pool h_Pool_put_out (hr.mono (by decide)) pass_def) (by rfl) (by first | exact Or.inl rfl | exact Or.inr rfl))
      (@pss_cons _ _ _ _ _ (@ps_set _ _ 4 _ _ _ _ sc_Pool_fetched.nd rfl (by first | exact Or.inl rfl | exact Or.inr rfl) (pe_me (pv 0) T.cl_Pool h_Pool_brought_in (hr.mono (by decide)) pass_def (@pa_cn _ _ _ _ _ (@pe_ix _ _ _ _ _ _ _ ix_tup (pv 2) pe_int (fun _ _ => rfl)) (@pa_cn _ _ _ _ _ (@pe_ix _ _ _ _ _ _ _ ix_tup (pv 2) pe_int (fun _ _ => rfl)) pa_nil rfl) rfl)) (by rfl) (by first | exact Or.inl rfl | exact Or.inr rfl))
      (@pss_one _ _ _ (@ps_ret _ _ _ _ (@pe_tup _ _ _ _ _ (@pa_cn _ _ _ _ _ (pv 4) (@pa_cn _ _ _ _ _ (pe_op op_cat (pv 3) (@pe_lst _ _ _ _ (@pa_cn _ _ _ _ _ (@pe_tup _ _ _ _ _ (@pa_cn _ _ _ _ _ pe_str (@pa_cn _ _ _ _ _ (pv 4) (@pa_cn _ _ _ _ _ (pv 1) pa_nil rfl) rfl) rfl)) pa_nil rfl))) pa_nil rfl) rfl))))))), ?_⟩
  obtain ⟨dx, f, g, h, f1, f2, f3, P, rfl⟩ := P
  have t1 := T.cl_Pool; have t2 := T.n_Pool_frame_store; have t3 := T.n_Pool_slot_store
  have t6 := T.cl_Store
  have hp := P.ob
  have S2 := P.s2
  obtain ⟨dx2, _, _, _, _, q2⟩ := id S2
  have o2 := q2.ob
  walk_at "go"
  refine ⟨fun u T1 x H1 hT hx xf hTn S21 S21' fr1 => ?_, fun u => k2 u⟩
  have wr := P.w2.rowOf u
  have rl := P.s2.rowlen u
  have sub1 : ∀ b, b ∈ (f2.filter fun b => decide (b ≠ x)) → b ∈ f2 := fun b hb => (List.mem_filter.mp hb).1
  have fr1' : Fr f2 (f2.filter fun b => decide (b ≠ x)) H H1 := fr1.sub sub1
  have P1 := P.ch2 S21' fr1' (P.w2.set (Int.le_refl _) fun w => absurd rfl w)
  have xp : x ≠ p := fun z => P.p2 (by rw [← z]; exact xf)
  have nx1 : x ∉ f1 := fun z => P.a12 x z xf
  have nx3 : x ∉ f3 := P.a23 x xf
  generalize hf2 : (f2.filter fun b => decide (b ≠ x)) = f2' at P1 fr1' sub1
  have nxf : x ∉ plFp p f1 f2' f3 := fun z => by
    rcases mem_plFp.mp z with q | q | q | q
    · exact xp q
    · exact nx1 q
    · rw [← hf2] at q; have := (List.mem_filter.mp q).2; simp at this
    · exact nx3 q
  have nT : T1 ∉ plFp p f1 f2' f3 := fun z => by
    have lvT : ∃ o, H T1 = some o := by
      rcases mem_plFp.mp z with q | q | q | q
      · rw [q]; exact ⟨_, hp⟩
      · exact P.s1.live _ q
      · exact P.s2.live _ (sub1 _ q)
      · exact P.s3.live _ q
    obtain ⟨o, e⟩ := lvT
    rw [hTn] at e; cases e
  have z1 : 0 ∈ Rooms.cs (offS S n) := by
    unfold offS
    rw [Rooms.cs_set]
    have h0 := u.1.1
    have h1 := u.1.2
    refine List.mem_iff_getElem.mpr ⟨n.toNat, by rw [List.length_set]; omega, ?_⟩
    rw [List.getElem_set_self]
  have P1 : PlIn a H1 p dx f g h s R (offS S n) bs st f1 f2' f3 := P1
  have hp1 := P1.ob
  have rm : 0 ∈ R.cs ∨ 0 ∈ Rooms.cs (offS S n) := .inr z1
  walk_at "go"
  intro l ts f2'' H2 P2 M2 hl ht nb sb2 fr2
  obtain ⟨dx3, m3, q3⟩ := id P.s3
  have zo := out_free (S := offS S n) P.ln q3.lt
  have hT2 := fr2.1 _ _ hT nT
  have hx2 := fr2.1 _ _ hx nxf
  have hp2 := P2.ob
  have a0 : atI [V.ref x, V.int (cntOf S n)] 0 = some (.ref x) := rfl
  have a1 : atI [V.ref x, V.int (cntOf S n)] 1 = some (.int (cntOf S n)) := rfl
  have c1 := wr.2
  have ok : OkW s (rowOf S n) := ⟨rl, wr.1⟩
  walk_at "go"
  intro f1' H3 P3 sb3 fr3
  generalize hfr : idx0 (outR R (offS S n) bs st) = fi at *
  walk_at "go"
  intro t4 ht4
  have nl2 : l ∉ plFp p f1 f2'' f3 := fun z => by
    rcases mem_plFp.mp z with q | q | q | q
    · rw [q, hp1] at hl; cases hl
    · obtain ⟨o, e⟩ := P1.s1.live l q; rw [hl] at e; cases e
    · exact (nb l q).1 rfl
    · obtain ⟨o, e⟩ := P1.s3.live l q; rw [hl] at e; cases e
  have nt2 : ∀ t ∈ ts, t ∉ plFp p f1 f2'' f3 := fun t htt z => by
    rcases mem_plFp.mp z with q | q | q | q
    · rw [q] at htt; have := ht p htt; rw [hp1] at this; cases this
    · obtain ⟨o, e⟩ := P1.s1.live t q; rw [ht t htt] at e; cases e
    · exact (nb t q).2 htt
    · obtain ⟨o, e⟩ := P1.s3.live t q; rw [ht t htt] at e; cases e
  have hl3 := fr3.out M2.hl nl2
  have at3 : ∀ (i : Nat) (t : Addr) (m : Mv), ts[i]? = some t → (outM R (offS S n) bs st)[i]? = some m → H3 t = some (.tup (mvTup m)) ∧ t ∉ plFp p f1' f2'' f3 := fun i t m e1 e2 => fr3.out (M2.at' i t m e1 e2) (nt2 t (List.mem_of_getElem? e1))
  have live3 : ∀ b, H3 b = none → H b = none := fun b hb => by
    cases e : H b with
    | none => rfl
    | some o =>
      exfalso
      have b1 : ∃ o, H1 b = some o := by
        by_cases q : b ∈ f2
        · exact S21.live b q
        · exact ⟨o, fr1.1 _ _ e q⟩
      obtain ⟨o1, b1⟩ := b1
      by_cases q : b ∈ plFp p f1 f2' f3
      · have : b ∈ plFp p f1' f2'' f3 := by
          rcases mem_plFp.mp q with w | w | w | w
          · exact mem_plFp.mpr (.inl w)
          · exact mem_plFp.mpr (.inr (.inl (sb3 b w)))
          · exact mem_plFp.mpr (.inr (.inr (.inl (sb2 b w))))
          · exact mem_plFp.mpr (.inr (.inr (.inr w)))
        obtain ⟨o', e'⟩ := P3.live b this
        rw [hb] at e'; cases e'
      · have b2 := fr2.out b1 q
        have b3 := fr3.1 _ _ b2.1 b2.2
        rw [hb] at b3; cases b3
  have s4 : Same H3 (upd H3 t4 (.tup [.str "in", .int (fi : Int), .int n])) := same_upd ht4
  have e4 : upd H3 t4 (.tup [.str "in", .int (fi : Int), .int n]) t4 = some (.tup [.str "in", .int (fi : Int), .int n]) := upd_same
  generalize upd H3 t4 (.tup [.str "in", .int (fi : Int), .int n]) = H4 at s4 e4
  walk_at "go"
  intro l5 hl5
  have s5 : Same H4 (upd H4 l5 (.lst [.ref t4])) := same_upd hl5
  have e5 : upd H4 l5 (.lst [.ref t4]) l5 = some (.lst [.ref t4]) := upd_same
  generalize upd H4 l5 (.lst [.ref t4]) = H5 at s5 e5
  have hl5' := s5 _ _ (s4 _ _ hl3.1)
  have tl : ts.length ≤ 1 := by
    rw [M2.len]
    unfold outM
    split
    · exact Nat.zero_le _
    · exact Nat.le_refl _
  have z6 : (ts.map V.ref).length + [V.ref t4].length ≤ sizeLine := by rw [List.length_map, sizeLine_eq]; simp; omega
  walk_at "go"
  intro l6 hl6
  have s6 : Same H5 (upd H5 l6 (.lst (ts.map V.ref ++ [.ref t4]))) := same_upd hl6
  have e6 : upd H5 l6 (.lst (ts.map V.ref ++ [.ref t4])) l6 = some (.lst (ts.map V.ref ++ [.ref t4])) := upd_same
  generalize upd H5 l6 (.lst (ts.map V.ref ++ [.ref t4])) = H6 at s6 e6
  walk_at "go"
  intro T7 hT7
  have s7 : Same H6 (upd H6 T7 (.tup [.int (fi : Int), .ref l6])) := same_upd hT7
  have s37 := ((s4.trans s5).trans s6).trans s7
  have n6 : H3 l6 = none := none_of' s4 (none_of' s5 hl6)
  have n7 : H3 T7 = none := none_of' s4 (none_of' s5 (none_of' s6 hT7))
  have frA := ((Fr.pl2 (p := p) (f1 := f1) (f3 := f3) fr1').trans fr2).trans fr3
  have outF : ∀ b, H3 b = none → b ∉ plFp p f1' f2'' f3 := fun b hb z => by obtain ⟨o, e⟩ := P3.live b z; rw [hb] at e; cases e
  have t0 : ∀ t ∈ ts, H t = none := fun t htt => by
    cases e : H t with
    | none => rfl
    | some o =>
      have := ht t htt
      by_cases q : t ∈ f2
      · obtain ⟨o', e'⟩ := S21.live t q; rw [this] at e'; cases e'
      · rw [fr1.1 _ _ e q] at this; cases this
  subst hfr
  refine k1 u T7 l6 (ts ++ [t4]) (plFp p f1' f2'' f3) _ upd_same ⟨?_, ?_, fun i t m q1 q2 => ?_⟩ ⟨dx, f, g, h, f1', f2'', f3, P3.same s37, rfl⟩ (frA.trans (Fr.same s37)) (live3 T7 n7) (live3 l6 n6) (fun t htt => ?_) (fun b hb => ⟨fun z => outF T7 n7 (by rw [← z]; exact hb), fun z => outF l6 n6 (by rw [← z]; exact hb), fun z => ?_⟩)
  · rw [s7 _ _ e6, List.map_append]; rfl
  · rw [List.length_append, List.length_append, M2.len]; rfl
  · by_cases c : i < ts.length
    · rw [List.getElem?_append_left c] at q1
      rw [List.getElem?_append_left (by rw [← M2.len]; exact c)] at q2
      exact s37 _ _ (at3 i t m q1 q2).1
    · have il := (List.getElem?_eq_some_iff.mp q1).1
      rw [List.length_append] at il
      have ei : i = ts.length := by simp at il; omega
      rw [ei, List.getElem?_append_right (Nat.le_refl _), Nat.sub_self] at q1
      rw [ei, List.getElem?_append_right (by rw [M2.len]; exact Nat.le_refl _), M2.len, Nat.sub_self] at q2
      cases q1; cases q2
      exact ((s5.trans s6).trans s7) _ _ e4
  · rcases List.mem_append.mp htt with q | q
    · exact t0 t q
    · rw [List.mem_singleton.mp q]; exact live3 t4 ht4
  · rcases List.mem_append.mp z with q | q
    · obtain ⟨i, hi, e⟩ := List.getElem_of_mem q
      have il : i < (outM R (offS S n) bs st).length := by rw [← M2.len]; exact hi
      exact (at3 i b _ (by rw [List.getElem?_eq_getElem hi, e]) (List.getElem?_eq_getElem il)).2 hb
    · exact outF t4 ht4 (by rw [← List.mem_singleton.mp q]; exact hb)
end
end K30

set_option maxHeartbeats 4000000
namespace K30
open PySem L2
theorem comp_zipF {K : PySem.W.Frag} {l1 l2 : Addr} {xs ys : List V} {k n : Nat} {tc : TT} {te : TE} {σ : St} {H1 : Hp} {acc : Addr} {QH : Hp → Prop} (hacc : H1 acc = none) (f : V → V → V) (p : V → V → Bool) (h1 : H1 l1 = some (.lst xs)) (h2 : H1 l2 = some (.lst ys)) (hx : xs.length = n) (hy : ys.length = n) (hn : n < sizeLine)
    (hc : ∀ (i : Nat) (x y : V) (H' : Hp), xs[i]? = some x → ys[i]? = some y → ∀ R : Bool → Hp → Prop, R (p x y) H' → tc (some x :: some y :: σ) H' R)
    (he : ∀ (i : Nat) (x y : V) (H' : Hp), xs[i]? = some x → ys[i]? = some y → ∀ R : VK, R (f x y) H' → te (some x :: some y :: σ) H' R)
    (q : ∀ H', Same H1 H' → H' acc = some (.lst (((xs.zip ys).filter fun z => p z.1 z.2).map fun z => f z.1 z.2)) → QH H') (hk : k = 2 := by rfl) :
    ∃ (W : Nat → List V → Hp → Prop) (n' : Nat), W 0 [] (upd H1 acc (.lst [])) ∧
      ∀ i zs H2, W i zs H2 → H2 acc = some (.lst zs) ∧ zs.length < sizeLine ∧ ((i = n' ∧ (Itz false false K l1 l2).stop i H2 ∧ QH H2) ∨ (i < n' ∧ (Itz false false K l1 l2).go i H2 ∧ ∀ x H3, (Itz false false K l1 l2).yld i H2 x H3 → ∀ τ : St, τ.length = k → (gTup K 2 (gCons (gName 0) (gCons (gName 1) gNil))) x (τ ++ σ) H3 fun τ2 H4 =>
        (∃ τ' : St, τ'.length = k ∧ τ2 = τ' ++ σ) ∧ tc τ2 H4 fun b H5 => if b = true then te τ2 H5 fun v H6 => H6 acc = some (.lst zs) ∧ W (i + 1) (zs ++ [v]) (upd H6 acc (.lst (zs ++ [v]))) else W (i + 1) zs H5)) := by
  subst hk
  refine ⟨fun i zs H2 => i ≤ n ∧ zs = (((xs.zip ys).take i).filter fun z => p z.1 z.2).map (fun z => f z.1 z.2) ∧ (∀ b o, H1 b = some o → H2 b = some o) ∧ H2 acc = some (.lst zs), n, ⟨Nat.zero_le _, rfl, same_upd hacc, upd_same⟩, ?_⟩
  rintro i zs H2 ⟨hi, hzs, fr, ha⟩
  have hl : (xs.zip ys).length = n := by rw [List.length_zip, hx, hy]; omega
  have hl2 : zs.length < sizeLine := by
    rw [hzs, List.length_map]
    have := List.length_filter_le (fun z : V × V => p z.1 z.2) ((xs.zip ys).take i)
    rw [List.length_take, hl] at this
    omega
  refine ⟨ha, hl2, ?_⟩
  by_cases hlt : i < n
  · refine .inr ⟨hlt, ⟨xs, ys, SqL.of (fr _ _ h1), SqL.of (fr _ _ h2), by omega, by omega⟩, ?_⟩
    rintro v H3 ⟨T, rfl, hT, e⟩ τ hτ
    have ex : xs[i]? = some (xs[i]'(by omega)) := List.getElem?_eq_getElem (by omega)
    have ey : ys[i]? = some (ys[i]'(by omega)) := List.getElem?_eq_getElem (by omega)
    rw [e xs ys _ _ (SqL.of (fr _ _ h1)) (SqL.of (fr _ _ h2)) ex ey]
    generalize xs[i]'(by omega) = x at ex
    generalize ys[i]'(by omega) = y at ey
    have ez : (xs.zip ys)[i]? = some (x, y) := by rw [List.getElem?_zip_eq_some]; exact ⟨ex, ey⟩
    obtain ⟨t0, t1, rfl⟩ : ∃ t0 t1, τ = [t0, t1] := by
      match τ, hτ with
      | [t0, t1], _ => exact ⟨t0, t1, rfl⟩
    have same2 : ∀ b o, H1 b = some o → upd H2 T (.tup [x, y]) b = some o := fun b o hb => by rw [upd_ne (ne_of_none (fr _ _ hb) hT)]; exact fr _ _ hb
    have ha2 : upd H2 T (.tup [x, y]) acc = some (.lst zs) := by rw [upd_ne (ne_of_none ha hT)]; exact ha
    refine ⟨T, _, rfl, SqT.of upd_same, rfl, _, _, rfl, _, _, rfl, rfl, ⟨[some _, some _], rfl, rfl⟩, ?_⟩
    refine hc i _ _ _ ex ey _ ?_
    have tk : ((xs.zip ys).take (i + 1)) = (xs.zip ys).take i ++ [(x, y)] := by rw [List.take_add_one, ez]; rfl
    cases hp : p x y with
    | true =>
      rw [if_pos rfl]
      refine he i _ _ _ ex ey _ ⟨ha2, hlt, ?_, fun b o hb => ?_, upd_same⟩
      · rw [tk, List.filter_append, List.map_append, hzs, List.filter_cons, if_pos hp]; rfl
      · rw [upd_ne (ne_of_none hb hacc)]; exact same2 _ _ hb
    | false =>
      rw [if_neg (by decide)]
      refine ⟨hlt, ?_, same2, ha2⟩
      rw [tk, List.filter_append, List.map_append, hzs, List.filter_cons, if_neg (by rw [hp]; decide)]
      simp
  · have e : i = n := by omega
    subst e
    refine .inl ⟨rfl, ⟨xs, ys, SqL.of (fr _ _ h1), SqL.of (fr _ _ h2), .inl (by omega)⟩, q H2 fr ?_⟩
    rw [ha, hzs, List.take_of_length_le (by omega)]
structure Bx (p : Prop) : Prop where
  o : p
def isT : V → Bool
  | .bl b => b
  | _ => false
def clsE (a : Adr) (i : Nat) : Addr := if i = 0 then a.c_NoWord else if i = 1 then a.c_NoNumber else if i = 2 then a.c_NoAddress else a.c_NoShape
def nmE (i : Nat) : Str := if i = 0 then "word" else if i = 1 then "number" else if i = 2 then "address" else "shape"
def spKinds30 (a : Adr) : Sp := fun vs H Q _ => ∃ (e : Addr) (i : Nat), vs = [.ref e] ∧ i < 4 ∧ H e = some (exO e (.ref (clsE a i)) none) ∧ ∀ q H', H' q = some (.lst [.str (nmE i)]) → Same H H' → Q (.ref q) H'
section
variable {P : Program} {w : World} {K : PySem.W.Frag} {mg : Str → Option Value} {base : Heap} {a : Adr}
theorem ok__law_kinds {dvs : List V} (R : RawF K mg "_law_kinds" s__law_kinds ["_law_e"] dvs) (T : Txt K mg a) :
    HasFn P w K mg base 1 "_law_kinds" ["_law_e"] (spKinds30 a) dvs := by
  refine R.ok sc__law_kinds (fun vs H Q E h => ?_) (fun f cdv A outer s H vs Q E hr h => ?_)
  · obtain ⟨e, i, rfl, _⟩ := h
    rfl
  obtain ⟨e, i, rfl, i4, he, k⟩ := h
  refine ⟨_, (pss_cons (ps_set (i := 1) sc__law_kinds.nd rfl (by first | exact Or.inl rfl | exact Or.inr rfl) (pe_lst (pa_cn (pe_callB call_isinst (by rfl) T.b_isinstance PyProof.Rows.Boot.«isinstance» (pa_cn (pv 0) (pa_cn (pe_glob (v := .ref a.c_NoWord) (by rfl) T.m_NoWord rfl) pa_nil rfl) rfl)) (pa_cn (pe_callB call_isinst (by rfl) T.b_isinstance PyProof.Rows.Boot.«isinstance» (pa_cn (pv 0) (pa_cn (pe_glob (v := .ref a.c_NoNumber) (by rfl) T.m_NoNumber rfl) pa_nil rfl) rfl)) (pa_cn (pe_callB call_isinst (by rfl) T.b_isinstance PyProof.Rows.Boot.«isinstance» (pa_cn (pv 0) (pa_cn (pe_glob (v := .ref a.c_NoAddress) (by rfl) T.m_NoAddress rfl) pa_nil rfl) rfl)) (pa_cn (pe_callB call_isinst (by rfl) T.b_isinstance PyProof.Rows.Boot.«isinstance» (pa_cn (pv 0) (pa_cn (pe_glob (v := .ref a.c_NoShape) (by rfl) T.m_NoShape rfl) pa_nil rfl) rfl)) pa_nil rfl) rfl) rfl) rfl)))
      (pss_cons (ps_set (i := 2) sc__law_kinds.nd rfl (by first | exact Or.inl rfl | exact Or.inr rfl) (@pe_lst _ _ _ _ (@pa_cn _ _ _ _ _ pe_str (@pa_cn _ _ _ _ _ pe_str (@pa_cn _ _ _ _ _ pe_str (@pa_cn _ _ _ _ _ pe_str (@pa_cn _ _ _ _ _ pe_str pa_nil rfl) rfl) rfl) rfl) rfl)))
      (pss_one (ps_ret (pe_comp (xs := ["_law_word", "_law_truth"]) (N' := ["_law_e", "_law_some", "_law_words"]) rfl ⟨rfl, by decide +kernel, by decide +kernel, by dsimp only [cxOf, PyProof.Rows.envOfC]; decide +kernel, by decide +kernel, by dsimp only [cxOf]; decide +kernel, rfl⟩ (pi_zip false false (by rfl) T.b_zip (pv 2) (pe_op op_cat (pv 1) (pe_lst (pa_cn (pe_callB call_isinst (by rfl) T.b_isinstance PyProof.Rows.Boot.«isinstance» (pa_cn (pv 0) (pa_cn (pe_glob (v := .ref a.c_Full) (by rfl) T.m_Full rfl) pa_nil rfl) rfl)) pa_nil rfl)))) (fun _ _ _ _ _ => (pg_tupK (K := K) (n := 2) rfl rfl (pgs_cons (pg_name (i := 0) (by dsimp only [cxComp]; decide +kernel) rfl (by first | exact Or.inl rfl | exact Or.inr rfl)) (pgs_cons (pg_name (i := 1) (by dsimp only [cxComp]; decide +kernel) rfl (by first | exact Or.inl rfl | exact Or.inr rfl)) pgs_nil)))) (fun _ _ _ _ _ => (pts_one (pt_val (pv 1)))) (fun _ _ _ _ _ => (pv 0))))))), ?_⟩
  have iv : i = 0 ∨ i = 1 ∨ i = 2 ∨ i = 3 := by omega
  rcases iv with rfl | rfl | rfl | rfl
  · have ty : TyE K H (.ref e) (.ref a.c_NoWord) := .exc he T.i_NoWord T.isk
    have f0 := T.e_NoWord_NoWord; have f1 := T.e_NoWord_NoNumber; have f2 := T.e_NoWord_NoAddress; have f3 := T.e_NoWord_NoShape; have f4 := T.e_NoWord_Full
    walk_at "go"
    intro q1 hq1
    have s1 : Same H (upd H q1 (.lst [V.bl true, V.bl false, V.bl false, V.bl false])) := same_upd hq1
    have e1 : upd H q1 (.lst [V.bl true, V.bl false, V.bl false, V.bl false]) q1 = some (.lst [V.bl true, V.bl false, V.bl false, V.bl false]) := upd_same
    generalize upd H q1 (.lst [V.bl true, V.bl false, V.bl false, V.bl false]) = H1 at s1 e1
    walk_at "go"
    intro q2 hq2
    have s2 : Same H1 (upd H1 q2 (.lst [V.str "word", V.str "number", V.str "address", V.str "shape", V.str "full"])) := same_upd hq2
    have e2 : upd H1 q2 (.lst [V.str "word", V.str "number", V.str "address", V.str "shape", V.str "full"]) q2 = some (.lst [V.str "word", V.str "number", V.str "address", V.str "shape", V.str "full"]) := upd_same
    generalize upd H1 q2 (.lst [V.str "word", V.str "number", V.str "address", V.str "shape", V.str "full"]) = H2 at s2 e2
    have e12 := s2 _ _ e1
    have ty2 : TyE K H2 (.ref e) (.ref a.c_NoWord) := .exc (s2 _ _ (s1 _ _ he)) T.i_NoWord T.isk
    walk_at "go"
    intro q3 hq3
    have s3 : Same H2 (upd H2 q3 (.lst [V.bl false])) := same_upd hq3
    have e3 : upd H2 q3 (.lst [V.bl false]) q3 = some (.lst [V.bl false]) := upd_same
    generalize upd H2 q3 (.lst [V.bl false]) = H3 at s3 e3
    have e13 := s3 _ _ e12
    have zl : [V.bl true, V.bl false, V.bl false, V.bl false].length + [V.bl false].length ≤ sizeLine := by decide +kernel
    walk_at "go"
    intro q4 hq4
    have s4 : Same H3 (upd H3 q4 (.lst ([V.bl true, V.bl false, V.bl false, V.bl false] ++ [V.bl false]))) := same_upd hq4
    have e4 : upd H3 q4 (.lst ([V.bl true, V.bl false, V.bl false, V.bl false] ++ [V.bl false])) q4 = some (.lst [V.bl true, V.bl false, V.bl false, V.bl false, V.bl false]) := upd_same
    generalize upd H3 q4 (.lst ([V.bl true, V.bl false, V.bl false, V.bl false] ++ [V.bl false])) = H4 at s4 e4
    have e24 := s4 _ _ (s3 _ _ e2)
    have s04 := ((s1.trans s2).trans s3).trans s4
    walk_at "go"
    refine ⟨SqL.of e24, SqL.of e4, fun q5 hq5 => ?_⟩
    refine comp_zipF hq5 (fun x _ => x) (fun _ y => isT y) e24 (show H4 q4 = some (.lst (([true, false, false, false, false] : List Bool).map V.bl)) from e4) rfl rfl (by decide +kernel) (fun j x y H' hx hy R r => ?_) (fun j x y H' hx hy R r => ?_) (fun H5 s5 h5 => ?_)
    · rw [List.getElem?_map] at hy
      obtain ⟨b, _, rfl⟩ := Option.map_eq_some_iff.mp hy
      walk_at "go"
      exact r
    · walk_at "go"
      exact r
    · walk_at "go"
      exact k q5 H5 h5 (s04.trans s5)
  · have ty : TyE K H (.ref e) (.ref a.c_NoNumber) := .exc he T.i_NoNumber T.isk
    have f0 := T.e_NoNumber_NoWord; have f1 := T.e_NoNumber_NoNumber; have f2 := T.e_NoNumber_NoAddress; have f3 := T.e_NoNumber_NoShape; have f4 := T.e_NoNumber_Full
    walk_at "go"
    intro q1 hq1
    have s1 : Same H (upd H q1 (.lst [V.bl false, V.bl true, V.bl false, V.bl false])) := same_upd hq1
    have e1 : upd H q1 (.lst [V.bl false, V.bl true, V.bl false, V.bl false]) q1 = some (.lst [V.bl false, V.bl true, V.bl false, V.bl false]) := upd_same
    generalize upd H q1 (.lst [V.bl false, V.bl true, V.bl false, V.bl false]) = H1 at s1 e1
    walk_at "go"
    intro q2 hq2
    have s2 : Same H1 (upd H1 q2 (.lst [V.str "word", V.str "number", V.str "address", V.str "shape", V.str "full"])) := same_upd hq2
    have e2 : upd H1 q2 (.lst [V.str "word", V.str "number", V.str "address", V.str "shape", V.str "full"]) q2 = some (.lst [V.str "word", V.str "number", V.str "address", V.str "shape", V.str "full"]) := upd_same
    generalize upd H1 q2 (.lst [V.str "word", V.str "number", V.str "address", V.str "shape", V.str "full"]) = H2 at s2 e2
    have e12 := s2 _ _ e1
    have ty2 : TyE K H2 (.ref e) (.ref a.c_NoNumber) := .exc (s2 _ _ (s1 _ _ he)) T.i_NoNumber T.isk
    walk_at "go"
    intro q3 hq3
    have s3 : Same H2 (upd H2 q3 (.lst [V.bl false])) := same_upd hq3
    have e3 : upd H2 q3 (.lst [V.bl false]) q3 = some (.lst [V.bl false]) := upd_same
    generalize upd H2 q3 (.lst [V.bl false]) = H3 at s3 e3
    have e13 := s3 _ _ e12
    have zl : [V.bl false, V.bl true, V.bl false, V.bl false].length + [V.bl false].length ≤ sizeLine := by decide +kernel
    walk_at "go"
    intro q4 hq4
    have s4 : Same H3 (upd H3 q4 (.lst ([V.bl false, V.bl true, V.bl false, V.bl false] ++ [V.bl false]))) := same_upd hq4
    have e4 : upd H3 q4 (.lst ([V.bl false, V.bl true, V.bl false, V.bl false] ++ [V.bl false])) q4 = some (.lst [V.bl false, V.bl true, V.bl false, V.bl false, V.bl false]) := upd_same
    generalize upd H3 q4 (.lst ([V.bl false, V.bl true, V.bl false, V.bl false] ++ [V.bl false])) = H4 at s4 e4
    have e24 := s4 _ _ (s3 _ _ e2)
    have s04 := ((s1.trans s2).trans s3).trans s4
    walk_at "go"
    refine ⟨SqL.of e24, SqL.of e4, fun q5 hq5 => ?_⟩
    refine comp_zipF hq5 (fun x _ => x) (fun _ y => isT y) e24 (show H4 q4 = some (.lst (([false, true, false, false, false] : List Bool).map V.bl)) from e4) rfl rfl (by decide +kernel) (fun j x y H' hx hy R r => ?_) (fun j x y H' hx hy R r => ?_) (fun H5 s5 h5 => ?_)
    · rw [List.getElem?_map] at hy
      obtain ⟨b, _, rfl⟩ := Option.map_eq_some_iff.mp hy
      walk_at "go"
      exact r
    · walk_at "go"
      exact r
    · walk_at "go"
      exact k q5 H5 h5 (s04.trans s5)
  · have ty : TyE K H (.ref e) (.ref a.c_NoAddress) := .exc he T.i_NoAddress T.isk
    have f0 := T.e_NoAddress_NoWord; have f1 := T.e_NoAddress_NoNumber; have f2 := T.e_NoAddress_NoAddress; have f3 := T.e_NoAddress_NoShape; have f4 := T.e_NoAddress_Full
    walk_at "go"
    intro q1 hq1
    have s1 : Same H (upd H q1 (.lst [V.bl false, V.bl false, V.bl true, V.bl false])) := same_upd hq1
    have e1 : upd H q1 (.lst [V.bl false, V.bl false, V.bl true, V.bl false]) q1 = some (.lst [V.bl false, V.bl false, V.bl true, V.bl false]) := upd_same
    generalize upd H q1 (.lst [V.bl false, V.bl false, V.bl true, V.bl false]) = H1 at s1 e1
    walk_at "go"
    intro q2 hq2
    have s2 : Same H1 (upd H1 q2 (.lst [V.str "word", V.str "number", V.str "address", V.str "shape", V.str "full"])) := same_upd hq2
    have e2 : upd H1 q2 (.lst [V.str "word", V.str "number", V.str "address", V.str "shape", V.str "full"]) q2 = some (.lst [V.str "word", V.str "number", V.str "address", V.str "shape", V.str "full"]) := upd_same
    generalize upd H1 q2 (.lst [V.str "word", V.str "number", V.str "address", V.str "shape", V.str "full"]) = H2 at s2 e2
    have e12 := s2 _ _ e1
    have ty2 : TyE K H2 (.ref e) (.ref a.c_NoAddress) := .exc (s2 _ _ (s1 _ _ he)) T.i_NoAddress T.isk
    walk_at "go"
    intro q3 hq3
    have s3 : Same H2 (upd H2 q3 (.lst [V.bl false])) := same_upd hq3
    have e3 : upd H2 q3 (.lst [V.bl false]) q3 = some (.lst [V.bl false]) := upd_same
    generalize upd H2 q3 (.lst [V.bl false]) = H3 at s3 e3
    have e13 := s3 _ _ e12
    have zl : [V.bl false, V.bl false, V.bl true, V.bl false].length + [V.bl false].length ≤ sizeLine := by decide +kernel
    walk_at "go"
    intro q4 hq4
    have s4 : Same H3 (upd H3 q4 (.lst ([V.bl false, V.bl false, V.bl true, V.bl false] ++ [V.bl false]))) := same_upd hq4
    have e4 : upd H3 q4 (.lst ([V.bl false, V.bl false, V.bl true, V.bl false] ++ [V.bl false])) q4 = some (.lst [V.bl false, V.bl false, V.bl true, V.bl false, V.bl false]) := upd_same
    generalize upd H3 q4 (.lst ([V.bl false, V.bl false, V.bl true, V.bl false] ++ [V.bl false])) = H4 at s4 e4
    have e24 := s4 _ _ (s3 _ _ e2)
    have s04 := ((s1.trans s2).trans s3).trans s4
    walk_at "go"
    refine ⟨SqL.of e24, SqL.of e4, fun q5 hq5 => ?_⟩
    refine comp_zipF hq5 (fun x _ => x) (fun _ y => isT y) e24 (show H4 q4 = some (.lst (([false, false, true, false, false] : List Bool).map V.bl)) from e4) rfl rfl (by decide +kernel) (fun j x y H' hx hy R r => ?_) (fun j x y H' hx hy R r => ?_) (fun H5 s5 h5 => ?_)
    · rw [List.getElem?_map] at hy
      obtain ⟨b, _, rfl⟩ := Option.map_eq_some_iff.mp hy
      walk_at "go"
      exact r
    · walk_at "go"
      exact r
    · walk_at "go"
      exact k q5 H5 h5 (s04.trans s5)
  · have ty : TyE K H (.ref e) (.ref a.c_NoShape) := .exc he T.i_NoShape T.isk
    have f0 := T.e_NoShape_NoWord; have f1 := T.e_NoShape_NoNumber; have f2 := T.e_NoShape_NoAddress; have f3 := T.e_NoShape_NoShape; have f4 := T.e_NoShape_Full
    walk_at "go"
    intro q1 hq1
    have s1 : Same H (upd H q1 (.lst [V.bl false, V.bl false, V.bl false, V.bl true])) := same_upd hq1
    have e1 : upd H q1 (.lst [V.bl false, V.bl false, V.bl false, V.bl true]) q1 = some (.lst [V.bl false, V.bl false, V.bl false, V.bl true]) := upd_same
    generalize upd H q1 (.lst [V.bl false, V.bl false, V.bl false, V.bl true]) = H1 at s1 e1
    walk_at "go"
    intro q2 hq2
    have s2 : Same H1 (upd H1 q2 (.lst [V.str "word", V.str "number", V.str "address", V.str "shape", V.str "full"])) := same_upd hq2
    have e2 : upd H1 q2 (.lst [V.str "word", V.str "number", V.str "address", V.str "shape", V.str "full"]) q2 = some (.lst [V.str "word", V.str "number", V.str "address", V.str "shape", V.str "full"]) := upd_same
    generalize upd H1 q2 (.lst [V.str "word", V.str "number", V.str "address", V.str "shape", V.str "full"]) = H2 at s2 e2
    have e12 := s2 _ _ e1
    have ty2 : TyE K H2 (.ref e) (.ref a.c_NoShape) := .exc (s2 _ _ (s1 _ _ he)) T.i_NoShape T.isk
    walk_at "go"
    intro q3 hq3
    have s3 : Same H2 (upd H2 q3 (.lst [V.bl false])) := same_upd hq3
    have e3 : upd H2 q3 (.lst [V.bl false]) q3 = some (.lst [V.bl false]) := upd_same
    generalize upd H2 q3 (.lst [V.bl false]) = H3 at s3 e3
    have e13 := s3 _ _ e12
    have zl : [V.bl false, V.bl false, V.bl false, V.bl true].length + [V.bl false].length ≤ sizeLine := by decide +kernel
    walk_at "go"
    intro q4 hq4
    have s4 : Same H3 (upd H3 q4 (.lst ([V.bl false, V.bl false, V.bl false, V.bl true] ++ [V.bl false]))) := same_upd hq4
    have e4 : upd H3 q4 (.lst ([V.bl false, V.bl false, V.bl false, V.bl true] ++ [V.bl false])) q4 = some (.lst [V.bl false, V.bl false, V.bl false, V.bl true, V.bl false]) := upd_same
    generalize upd H3 q4 (.lst ([V.bl false, V.bl false, V.bl false, V.bl true] ++ [V.bl false])) = H4 at s4 e4
    have e24 := s4 _ _ (s3 _ _ e2)
    have s04 := ((s1.trans s2).trans s3).trans s4
    walk_at "go"
    refine ⟨SqL.of e24, SqL.of e4, fun q5 hq5 => ?_⟩
    refine comp_zipF hq5 (fun x _ => x) (fun _ y => isT y) e24 (show H4 q4 = some (.lst (([false, false, false, true, false] : List Bool).map V.bl)) from e4) rfl rfl (by decide +kernel) (fun j x y H' hx hy R r => ?_) (fun j x y H' hx hy R r => ?_) (fun H5 s5 h5 => ?_)
    · rw [List.getElem?_map] at hy
      obtain ⟨b, _, rfl⟩ := Option.map_eq_some_iff.mp hy
      walk_at "go"
      exact r
    · walk_at "go"
      exact r
    · walk_at "go"
      exact k q5 H5 h5 (s04.trans s5)
end
end K30

set_option maxHeartbeats 4000000
namespace K30
open PySem L2
def Arg (a : Adr) (H : Hp) (R S : Rooms) (sz : Int) (fp : List Addr) (kvs : List (Key × V)) (way : Nat) (i : Nat) : Prop :=
  (way = 0 ∧ ∃ w ws, valV kvs (.inr "words") = some (.ref w) ∧ H w = some (.lst (ws.map V.int)) ∧ w ∉ fp ∧ ¬ OkW sz ws ∧ i = 0) ∨
  (way = 1 ∧ ∃ n j : Int, valV kvs (.inr "frame") = some (.int n) ∧ valV kvs (.inr "place") = some (.int j) ∧ ((¬ Used R n ∧ i = 1) ∨ (Used R n ∧ ¬ (0 ≤ j ∧ j < sz) ∧ i = 2))) ∨
  (way = 2 ∧ ∃ n j v : Int, valV kvs (.inr "frame") = some (.int n) ∧ valV kvs (.inr "place") = some (.int j) ∧ valV kvs (.inr "word") = some (.int v) ∧ ((¬ Used R n ∧ i = 1) ∨ (Used R n ∧ ¬ (0 ≤ j ∧ j < sz) ∧ i = 2) ∨ (Used R n ∧ (0 ≤ j ∧ j < sz) ∧ ¬ IsWord v ∧ i = 0))) ∨
  (way = 3 ∧ ∃ n : Int, valV kvs (.inr "slot") = some (.int n) ∧ ¬ Used S n ∧ i = 1) ∨
  ((way = 4 ∨ way = 5 ∨ way = 6 ∨ way = 7) ∧ ∃ x g, valV kvs (.inr "leaf") = some (.ref x) ∧ LfAt a H x g ∧ x ∉ fp ∧ ((∃ r n, g = .held r n ∧ ¬ Used R n) ∨ ∃ r n, g = .out r n ∧ ¬ Used S n) ∧ i = 1) ∨
  (way = 8 ∧ ∃ (l : Addr) (s0 s1 s2 : Int), valV kvs (.inr "sizes") = some (.ref l) ∧ H l = some (.lst [.int s0, .int s1, .int s2]) ∧ ¬ ((1 ≤ s2 ∧ s2 ≤ 64) ∧ (1 ≤ s0 ∧ s0 ≤ 64) ∧ (0 ≤ s1 ∧ s1 ≤ 64)) ∧ i = 3)
def spCalled30 (a : Adr) : Sp := fun vs H _ E => ∃ (p da : Addr) (wi : Int) (i : Nat) (kvs : List (Key × V)) (sz : Int) (R S : Rooms) (bs : List Bool) (st : Nat) (fp : List Addr), vs = [.ref p, .int wi, .ref da] ∧ 0 ≤ wi ∧ PlAt a H p sz R S bs st fp ∧ H da = some (.dK kvs) ∧ Arg a H R S sz fp kvs wi.toNat i ∧ ∀ H', Same H H' → E (.ref (clsE a i)) none H'
def spFound30 (a : Adr) : Sp := fun vs H Q _ => ∃ (p da : Addr) (wi : Int) (i : Nat) (kvs : List (Key × V)) (sz : Int) (R S : Rooms) (bs : List Bool) (st : Nat) (fp : List Addr), vs = [.ref p, .int wi, .ref da] ∧ 0 ≤ wi ∧ PlAt a H p sz R S bs st fp ∧ H da = some (.dK kvs) ∧ i < 4 ∧ Arg a H R S sz fp kvs wi.toNat i ∧ ∀ q H', H' q = some (.lst [.str (nmE i)]) → Same H H' → Q (.ref q) H'
section
variable {P : Program} {w : World} {K : PySem.W.Frag} {mg : Str → Option Value} {base : Heap} {a : Adr}
theorem ok__law_called {dvs : List V} (R : RawF K mg "_law_called" s__law_called ["_law_pool", "_law_way", "_law_a"] dvs) (T : Txt K mg a)
    (h_Pool_made : HasMe P w K mg base a.c_Pool 6 "made" ["self", "words"] (spPMade a) [])
    (h_Pool_word : HasMe P w K mg base a.c_Pool 5 "word" ["self", "frame", "place"] (spPWord a) [])
    (h_Pool_put : HasMe P w K mg base a.c_Pool 5 "put" ["self", "frame", "place", "word"] (spPPut a) [])
    (h_Pool_fetched : HasMe P w K mg base a.c_Pool 6 "fetched" ["self", "slot"] (spPFetched a) [])
    (h_Pool_more : HasMe P w K mg base a.c_Pool 5 "more" ["self", "leaf"] (spPMore a) [])
    (h_Pool_less : HasMe P w K mg base a.c_Pool 5 "less" ["self", "leaf"] (spPLess a) [])
    (h_Pool_words : HasMe P w K mg base a.c_Pool 4 "words" ["self", "leaf"] (spPWords a) [])
    (h_Pool_count : HasMe P w K mg base a.c_Pool 4 "count" ["self", "leaf"] (spPCount a) [])
    (h_Pool___init__ : HasMk P w K mg base a.c_Pool 5 ["self", "frames", "slots", "size"] (spPInit a) []) :
    HasFn P w K mg base 7 "_law_called" ["_law_pool", "_law_way", "_law_a"] (spCalled30 a) dvs := by
  refine R.ok sc__law_called (fun vs H Q E h => ?_) (fun f cdv A outer s H vs Q E hr h => ?_)
  · obtain ⟨p, da, wi, i, kvs, sz, Rr, Ss, bs, st, fp, rfl, _⟩ := h
    rfl
  obtain ⟨p, da, wi, i, kvs, sz, Rr, Ss, bs, st, fp, rfl, wi0, PL, hd, ag, k⟩ := h
  refine ⟨_, (@pss_one _ _ _ (ps_if (pt_cmpR op_eq (pv 1) pe_int (nomark _)) (@pss_one _ _ _ (ps_expr (pe_me (pv 0) T.cl_Pool h_Pool_made (hr.mono (by decide)) pass_def (@pa_cn _ _ _ _ _ (pe_dget hr.u1 (pv 2) pe_str (fun _ _ => rfl)) pa_nil rfl)))) (@pss_one _ _ _ (ps_if (pt_cmpR op_eq (pv 1) pe_int (nomark _)) (@pss_one _ _ _ (ps_expr (pe_me (pv 0) T.cl_Pool h_Pool_word (hr.mono (by decide)) pass_def (@pa_cn _ _ _ _ _ (pe_dget hr.u1 (pv 2) pe_str (fun _ _ => rfl)) (@pa_cn _ _ _ _ _ (pe_dget hr.u1 (pv 2) pe_str (fun _ _ => rfl)) pa_nil rfl) rfl)))) (@pss_one _ _ _ (ps_if (pt_cmpR op_eq (pv 1) pe_int (nomark _)) (@pss_one _ _ _ (ps_expr (pe_me (pv 0) T.cl_Pool h_Pool_put (hr.mono (by decide)) pass_def (@pa_cn _ _ _ _ _ (pe_dget hr.u1 (pv 2) pe_str (fun _ _ => rfl)) (@pa_cn _ _ _ _ _ (pe_dget hr.u1 (pv 2) pe_str (fun _ _ => rfl)) (@pa_cn _ _ _ _ _ (pe_dget hr.u1 (pv 2) pe_str (fun _ _ => rfl)) pa_nil rfl) rfl) rfl)))) (@pss_one _ _ _ (ps_if (pt_cmpR op_eq (pv 1) pe_int (nomark _)) (@pss_one _ _ _ (ps_expr (pe_me (pv 0) T.cl_Pool h_Pool_fetched (hr.mono (by decide)) pass_def (@pa_cn _ _ _ _ _ (pe_dget hr.u1 (pv 2) pe_str (fun _ _ => rfl)) pa_nil rfl)))) (@pss_one _ _ _ (ps_if (pt_cmpR op_eq (pv 1) pe_int (nomark _)) (@pss_one _ _ _ (ps_expr (pe_me (pv 0) T.cl_Pool h_Pool_more (hr.mono (by decide)) pass_def (@pa_cn _ _ _ _ _ (pe_dget hr.u1 (pv 2) pe_str (fun _ _ => rfl)) pa_nil rfl)))) (@pss_one _ _ _ (ps_if (pt_cmpR op_eq (pv 1) pe_int (nomark _)) (@pss_one _ _ _ (ps_expr (pe_me (pv 0) T.cl_Pool h_Pool_less (hr.mono (by decide)) pass_def (@pa_cn _ _ _ _ _ (pe_dget hr.u1 (pv 2) pe_str (fun _ _ => rfl)) pa_nil rfl)))) (@pss_one _ _ _ (ps_if (pt_cmpR op_eq (pv 1) pe_int (nomark _)) (@pss_one _ _ _ (ps_expr (pe_me (pv 0) T.cl_Pool h_Pool_words (hr.mono (by decide)) pass_def (@pa_cn _ _ _ _ _ (pe_dget hr.u1 (pv 2) pe_str (fun _ _ => rfl)) pa_nil rfl)))) (@pss_one _ _ _ (ps_if (pt_cmpR op_eq (pv 1) pe_int (nomark _)) (@pss_one _ _ _ (ps_expr (pe_me (pv 0) T.cl_Pool h_Pool_count (hr.mono (by decide)) pass_def (@pa_cn _ _ _ _ _ (pe_dget hr.u1 (pv 2) pe_str (fun _ _ => rfl)) pa_nil rfl)))) (@pss_one _ _ _ (ps_expr (pe_mk h_Pool___init__ (hr.mono (by decide)) (by rfl) T.m_Pool pass_def (@pa_cn _ _ _ _ _ (@pe_ix _ _ _ _ _ _ _ ix_list (pe_dget hr.u1 (pv 2) pe_str (fun _ _ => rfl)) pe_int (fun _ _ => rfl)) (@pa_cn _ _ _ _ _ (@pe_ix _ _ _ _ _ _ _ ix_list (pe_dget hr.u1 (pv 2) pe_str (fun _ _ => rfl)) pe_int (fun _ _ => rfl)) (@pa_cn _ _ _ _ _ (@pe_ix _ _ _ _ _ _ _ ix_list (pe_dget hr.u1 (pv 2) pe_str (fun _ _ => rfl)) pe_int (fun _ _ => rfl)) pa_nil rfl) rfl) rfl)))))))))))))))))))), ?_⟩
  obtain ⟨way, rfl⟩ : ∃ way : Nat, wi = (way : Int) := ⟨wi.toNat, by omega⟩
  rw [Int.toNat_natCast] at ag
  obtain ⟨dx, f1', g, h, f2', f3', f4', P', _⟩ := id PL
  have hp := P'.ob
  have t1 := T.cl_Pool
  rcases ag with ⟨rfl, w0, ws, v1, hw, nw, bad, rfl⟩ | ⟨rfl, n, j, v1, v2, q⟩ | ⟨rfl, n, j, v, v1, v2, v3, q⟩ | ⟨rfl, n, v1, nu, rfl⟩ | ⟨wy, x, g', v1, lf, nx, q, rfl⟩ | ⟨rfl, l, s0, s1, s2, v1, hl, bad, rfl⟩
  · have g1 : DGet H da (.str "words") (some (.ref w0)) := by rw [← v1]; exact DGet.k (k := .inr "words") hd
    walk_at "go"
    exact ⟨fun z => absurd z bad, fun z => absurd z bad, fun _ => k H (.refl _)⟩
  · have g1 : DGet H da (.str "frame") (some (.int n)) := by rw [← v1]; exact DGet.k (k := .inr "frame") hd
    have g2 : DGet H da (.str "place") (some (.int j)) := by rw [← v2]; exact DGet.k (k := .inr "place") hd
    walk_at "go"
    rcases q with ⟨u, rfl⟩ | ⟨u, b, rfl⟩
    · exact ⟨fun z => absurd z u, fun _ => k H (.refl _), fun z => absurd z u⟩
    · exact ⟨fun _ z => absurd z b, fun z => absurd u z, fun _ _ => k H (.refl _)⟩
  · have g1 : DGet H da (.str "frame") (some (.int n)) := by rw [← v1]; exact DGet.k (k := .inr "frame") hd
    have g2 : DGet H da (.str "place") (some (.int j)) := by rw [← v2]; exact DGet.k (k := .inr "place") hd
    have g3 : DGet H da (.str "word") (some (.int v)) := by rw [← v3]; exact DGet.k (k := .inr "word") hd
    walk_at "go"
    rcases q with ⟨u, rfl⟩ | ⟨u, b, rfl⟩ | ⟨u, b, c, rfl⟩
    · exact ⟨fun z => absurd z u, fun _ => k H (.refl _), fun z => absurd z u, fun z => absurd z u⟩
    · exact ⟨fun _ z => absurd z b, fun z => absurd u z, fun _ _ => k H (.refl _), fun _ z => absurd z b⟩
    · exact ⟨fun _ _ z => absurd z c, fun z => absurd u z, fun _ z => absurd b z, fun _ _ _ => k H (.refl _)⟩
  · have g1 : DGet H da (.str "slot") (some (.int n)) := by rw [← v1]; exact DGet.k (k := .inr "slot") hd
    walk_at "go"
    exact ⟨fun z => absurd z nu, fun _ => k H (.refl _)⟩
  · have g1 : DGet H da (.str "leaf") (some (.ref x)) := by rw [← v1]; exact DGet.k (k := .inr "leaf") hd
    have ex : ∀ (A B C D : Nat → Prop), True := fun _ _ _ _ => trivial
    rcases wy with rfl | rfl | rfl | rfl
    · walk_at "go"
      rcases q with ⟨r, n, rfl, nu⟩ | ⟨r, n, rfl, nu⟩
      · exact ⟨⟨fun r' f' e => (by cases e; exact ⟨fun z => absurd z nu, fun _ => k H (.refl _)⟩), fun r' f' e => (by cases e)⟩, fun z => (by rcases z with z | z <;> cases z)⟩
      · exact ⟨⟨fun r' f' e => (by cases e), fun r' f' e => (by cases e; exact ⟨fun z => absurd z nu, fun _ => k H (.refl _)⟩)⟩, fun z => (by rcases z with z | z <;> cases z)⟩
    · walk_at "go"
      rcases q with ⟨r, n, rfl, nu⟩ | ⟨r, n, rfl, nu⟩
      · exact ⟨⟨fun r' f' e => (by cases e; exact ⟨fun z => absurd z nu, fun _ => k H (.refl _)⟩), fun r' f' e => (by cases e)⟩, fun z => (by rcases z with z | z <;> cases z)⟩
      · exact ⟨⟨fun r' f' e => (by cases e), fun r' f' e => (by cases e; exact ⟨fun z => absurd z nu, fun _ => k H (.refl _)⟩)⟩, fun z => (by rcases z with z | z <;> cases z)⟩
    · walk_at "go"
      rcases q with ⟨r, n, rfl, nu⟩ | ⟨r, n, rfl, nu⟩
      · exact ⟨fun r' f' e => (by cases e; exact ⟨fun z => absurd z nu, fun _ => k H (.refl _)⟩), fun r' f' e => (by cases e), fun z => (by rcases z with z | z <;> cases z)⟩
      · exact ⟨fun r' f' e => (by cases e), fun r' f' e => (by cases e; exact ⟨fun z => absurd z nu, fun _ => k H (.refl _)⟩), fun z => (by rcases z with z | z <;> cases z)⟩
    · walk_at "go"
      rcases q with ⟨r, n, rfl, nu⟩ | ⟨r, n, rfl, nu⟩
      · exact ⟨⟨fun r' f' e => (by cases e; exact ⟨fun z => absurd z nu, fun _ => k H (.refl _)⟩), fun r' f' e => (by cases e)⟩, fun z => (by rcases z with z | z <;> cases z)⟩
      · exact ⟨⟨fun r' f' e => (by cases e), fun r' f' e => (by cases e; exact ⟨fun z => absurd z nu, fun _ => k H (.refl _)⟩)⟩, fun z => (by rcases z with z | z <;> cases z)⟩
  · have g1 : DGet H da (.str "sizes") (some (.ref l)) := by rw [← v1]; exact DGet.k (k := .inr "sizes") hd
    have a0 : atI [V.int s0, V.int s1, V.int s2] 0 = some (.int s0) := rfl
    have a1 : atI [V.int s0, V.int s1, V.int s2] 1 = some (.int s1) := rfl
    have a2 : atI [V.int s0, V.int s1, V.int s2] 2 = some (.int s2) := rfl
    walk_at "go"
    refine fun x dx hx hdx ne => ⟨x, dx, s0, s1, s2, rfl, upd_same, fun z => absurd z bad, fun _ H1 fr => k H1 (made_same hx hdx fr)⟩
theorem ok__law_found {dvs : List V} (R : RawF K mg "_law_found" s__law_found ["_law_pool", "_law_way", "_law_a"] dvs) (T : Txt K mg a)
    (h__law_called : HasFn P w K mg base 7 "_law_called" ["_law_pool", "_law_way", "_law_a"] (spCalled30 a) [])
    (h__law_kinds : HasFn P w K mg base 1 "_law_kinds" ["_law_e"] (spKinds30 a) []) :
    HasFn P w K mg base 8 "_law_found" ["_law_pool", "_law_way", "_law_a"] (spFound30 a) dvs := by
  refine R.ok sc__law_found (fun vs H Q E h => ?_) (fun f cdv A outer s H vs Q E hr h => ?_)
  · obtain ⟨p, da, wi, i, kvs, sz, Rr, Ss, bs, st, fp, rfl, _⟩ := h
    rfl
  obtain ⟨p, da, wi, i, kvs, sz, Rr, Ss, bs, st, fp, rfl, wi0, PL, hd, i4, ag, k⟩ := h
  refine ⟨_, (@pss_cons _ _ _ _ _ (@ps_set _ _ 3 _ _ _ _ sc__law_found.nd rfl (by first | exact Or.inl rfl | exact Or.inr rfl) pe_non (by rfl) (by first | exact Or.inl rfl | exact Or.inr rfl))
      (@pss_cons _ _ _ _ _ (ps_try_as (i := 4) rfl rfl rfl rfl T.x_LeafError (by rfl) T.m_LeafError sc__law_found.nd rfl rfl
      (fun pn xe EX hx => (@pss_one _ _ _ (ps_expr (pe_fn h__law_called (hr.mono (by decide)) (by rfl) hx (@pa_cn _ _ _ _ _ (pv 0) (@pa_cn _ _ _ _ _ (pv 1) (@pa_cn _ _ _ _ _ (pv 2) pa_nil rfl) rfl) rfl)))))
      (fun pn A' xe => (@pss_one _ _ _ (@ps_set _ _ 3 _ _ _ _ sc__law_found.nd rfl (by first | exact Or.inl rfl | exact Or.inr rfl) (pv 4) (by rfl) (by first | exact Or.inl rfl | exact Or.inr rfl)))))
      (@pss_cons _ _ _ _ _ (ps_if (pt_cmpR op_isN (pv 3) pe_non (nomark _)) (@pss_one _ _ _ (@ps_ret _ _ _ _ (@pe_lst _ _ _ _ (@pa_cn _ _ _ _ _ pe_str pa_nil rfl)))) pss_nil)
      (@pss_cons _ _ _ _ _ (ps_if (pt_not (pt_val (pe_callB call_isinst (by rfl) T.b_isinstance PyProof.Rows.Boot.«isinstance» (@pa_cn _ _ _ _ _ (pv 3) (@pa_cn _ _ _ _ _ (pe_bltn (v := .ty "ValueError") (by rfl) T.b_ValueError PyProof.Rows.Boot.«ValueError» rfl) pa_nil rfl) rfl)))) (@pss_one _ _ _ (@ps_ret _ _ _ _ (@pe_lst _ _ _ _ (@pa_cn _ _ _ _ _ pe_str pa_nil rfl)))) pss_nil)
      (@pss_one _ _ _ (@ps_ret _ _ _ _ (pe_fn h__law_kinds (hr.mono (by decide)) (by rfl) pass_def (@pa_cn _ _ _ _ _ (pv 3) pa_nil rfl)))))))), ?_⟩
  have iv : i = 0 ∨ i = 1 ∨ i = 2 ∨ i = 3 := by omega
  rcases iv with rfl | rfl | rfl | rfl
  · have t1 := T.s_NoWord; have t2 := T.v_NoWord
    walk_at "go"
    intro H1 s1
    walk_at "go"
    intro e he
    have s2 : Same H1 (upd H1 e (exO e (.ref (clsE a 0)) none)) := same_upd he
    have e2 : upd H1 e (exO e (.ref (clsE a 0)) none) e = some (exO e (.ref (clsE a 0)) none) := upd_same
    generalize upd H1 e (exO e (.ref (clsE a 0)) none) = H2 at s2 e2
    have e2' : H2 e = some (exO e (.ref a.c_NoWord) none) := e2
    have ty : TyE K H2 (.ref e) (.ref a.c_NoWord) := .exc e2' T.i_NoWord T.isk
    walk_at "go"
    exact fun q H3 h3 s3 => k q H3 h3 ((s1.trans s2).trans s3)
  · have t1 := T.s_NoNumber; have t2 := T.v_NoNumber
    walk_at "go"
    intro H1 s1
    walk_at "go"
    intro e he
    have s2 : Same H1 (upd H1 e (exO e (.ref (clsE a 1)) none)) := same_upd he
    have e2 : upd H1 e (exO e (.ref (clsE a 1)) none) e = some (exO e (.ref (clsE a 1)) none) := upd_same
    generalize upd H1 e (exO e (.ref (clsE a 1)) none) = H2 at s2 e2
    have e2' : H2 e = some (exO e (.ref a.c_NoNumber) none) := e2
    have ty : TyE K H2 (.ref e) (.ref a.c_NoNumber) := .exc e2' T.i_NoNumber T.isk
    walk_at "go"
    exact fun q H3 h3 s3 => k q H3 h3 ((s1.trans s2).trans s3)
  · have t1 := T.s_NoAddress; have t2 := T.v_NoAddress
    walk_at "go"
    intro H1 s1
    walk_at "go"
    intro e he
    have s2 : Same H1 (upd H1 e (exO e (.ref (clsE a 2)) none)) := same_upd he
    have e2 : upd H1 e (exO e (.ref (clsE a 2)) none) e = some (exO e (.ref (clsE a 2)) none) := upd_same
    generalize upd H1 e (exO e (.ref (clsE a 2)) none) = H2 at s2 e2
    have e2' : H2 e = some (exO e (.ref a.c_NoAddress) none) := e2
    have ty : TyE K H2 (.ref e) (.ref a.c_NoAddress) := .exc e2' T.i_NoAddress T.isk
    walk_at "go"
    exact fun q H3 h3 s3 => k q H3 h3 ((s1.trans s2).trans s3)
  · have t1 := T.s_NoShape; have t2 := T.v_NoShape
    walk_at "go"
    intro H1 s1
    walk_at "go"
    intro e he
    have s2 : Same H1 (upd H1 e (exO e (.ref (clsE a 3)) none)) := same_upd he
    have e2 : upd H1 e (exO e (.ref (clsE a 3)) none) e = some (exO e (.ref (clsE a 3)) none) := upd_same
    generalize upd H1 e (exO e (.ref (clsE a 3)) none) = H2 at s2 e2
    have e2' : H2 e = some (exO e (.ref a.c_NoShape) none) := e2
    have ty : TyE K H2 (.ref e) (.ref a.c_NoShape) := .exc e2' T.i_NoShape T.isk
    walk_at "go"
    exact fun q H3 h3 s3 => k q H3 h3 ((s1.trans s2).trans s3)
end
end K30

set_option maxHeartbeats 4000000
namespace K30
open PySem L2
theorem bad_up {far : Int} (h : 0 ≤ far) : ¬ IsWord (2 ^ (64 : Int).toNat + far) := fun w => by
  have := w.2
  rw [show (2 : Int) ^ (64 : Int).toNat = 18446744073709551616 by decide] at this
  omega
def spNone30 : Sp := fun vs H Q _ => ∃ (l : Addr) (cs : List Int) (c : Int), vs = [.ref l, .int c] ∧ H l = some (.lst (cs.map V.int)) ∧ cs.length ≤ 64 ∧ ∀ n : Int, ¬ (0 ≤ n ∧ n < (cs.length : Int) ∧ cs.getD n.toNat 0 ≠ 0) → Q (.int n) H
def spBad30 : Sp := fun vs H Q _ => ∃ (s c : Int), vs = [.int s, .int c] ∧ 1 ≤ s ∧ s ≤ 64 ∧ ∀ (q : Addr) (ws : List Int) (H' : Hp), H q = none → H' q = some (.lst (ws.map V.int)) → Same H H' → ¬ OkW s ws → Q (.ref q) H'
def spSizes30 : Sp := fun vs H Q _ => ∃ c : Int, vs = [.int c] ∧ ∀ (q : Addr) (s0 s1 s2 : Int) (H' : Hp), H' q = some (.lst [.int s0, .int s1, .int s2]) → Same H H' → ¬ ((1 ≤ s2 ∧ s2 ≤ 64) ∧ (1 ≤ s0 ∧ s0 ≤ 64) ∧ (0 ≤ s1 ∧ s1 ≤ 64)) → Q (.ref q) H'
def spMixed30 : Sp := fun vs H Q _ => ∃ c : Int, vs = [.int c] ∧ ∀ z : Int, Q (.int z) H
section
variable {P : Program} {w : World} {K : PySem.W.Frag} {mg : Str → Option Value} {base : Heap} {a : Adr}
theorem ok__law_mixed {dvs : List V} (R : RawF K mg "_law_mixed" s__law_mixed ["_law_raw"] dvs) (T : Txt K mg a) :
    HasFn P w K mg base 1 "_law_mixed" ["_law_raw"] (spMixed30) dvs := by
  refine R.ok sc__law_mixed (fun vs H Q E h => ?_) (fun f cdv A outer s H vs Q E hr h => ?_)
  · obtain ⟨c, rfl, _⟩ := h
    rfl
  obtain ⟨c, rfl, k⟩ := h
  refine ⟨_, (@pss_one _ _ _ (@ps_ret _ _ _ _ (pe_op op_add (pe_op op_mul (pv 0) pe_int) (pe_op op_mod (pe_op op_mul (pe_op op_mod (pv 0) pe_int) pe_int) pe_int)))), ?_⟩
  have cm : CMul (c % 65537) 48271 := .inr ⟨by decide, by decide⟩
  walk_at "go"
  exact k _
theorem ok__law_none {dvs : List V} (R : RawF K mg "_law_none" s__law_none ["_law_counts", "_law_cell"] dvs) (T : Txt K mg a) :
    HasFn P w K mg base 1 "_law_none" ["_law_counts", "_law_cell"] (spNone30) dvs := by
  refine R.ok sc__law_none (fun vs H Q E h => ?_) (fun f cdv A outer s H vs Q E hr h => ?_)
  · obtain ⟨l, cs, c, rfl, _⟩ := h
    rfl
  obtain ⟨l, cs, c, rfl, hl, l64, k⟩ := h
  refine ⟨_, (@pss_cons _ _ _ _ _ (@ps_set _ _ 2 _ _ _ _ sc__law_none.nd rfl (by first | exact Or.inl rfl | exact Or.inr rfl) (pe_op op_mod (pe_op op_fdiv (pv 1) pe_int) (pe_op op_pow pe_int pe_int)) (by rfl) (by first | exact Or.inl rfl | exact Or.inr rfl))
      (@pss_cons _ _ _ _ _ (ps_if (pt_cmpR op_eq (pe_op op_mod (pv 1) pe_int) pe_int (nomark _)) (@pss_one _ _ _ (@ps_ret _ _ _ _ (pe_op op_sub (pe_un un_neg pe_int) (pv 2)))) pss_nil)
      (@pss_cons _ _ _ _ _ (ps_if (PW.pt (pw_and (pt_cmpR op_in_seq pe_int (pv 0) (by with_unfolding_all rfl)) (pw_and1 (pt_cmpR op_lt (pe_op op_mod (pv 1) pe_int) pe_int (nomark _))))) (@pss_one _ _ _ (@ps_ret _ _ _ _ (pe_bm PySem.F.plainAttrs_list PySem.F.slot_list_index PySem.F.type_list_index mt_index (pv 0) (@pa_cn _ _ _ _ _ pe_int pa_nil rfl)))) pss_nil)
      (@pss_one _ _ _ (@ps_ret _ _ _ _ (pe_op op_add (pe_callB call_len_seq (by rfl) T.b_len PySem.boot_len (@pa_cn _ _ _ _ _ (pv 0) pa_nil rfl)) (pv 2))))))), ?_⟩
  have cp : CPow 10 30 := ⟨by decide, by decide, by decide⟩
  have p30 : (0 : Int) < (10 : Int) ^ (30 : Int).toNat := by decide
  have f0 := Int.emod_nonneg (c / 4) (show (10 : Int) ^ (30 : Int).toNat ≠ 0 by decide)
  walk_at "go"
  dsimp only
  generalize c / 4 % (10 : Int) ^ (30 : Int).toNat = far at f0
  have lm : (cs.map V.int).length = cs.length := List.length_map ..
  have last : ¬ (0 ≤ (cs.length : Int) + far ∧ (cs.length : Int) + far < (cs.length : Int) ∧ cs.getD ((cs.length : Int) + far).toNat 0 ≠ 0) := fun q => by omega
  refine iteI (fun z => ?_) (fun z => ?_)
  · walk_at "go"
    exact k _ fun q => by omega
  · have fl : (cs.map V.int).all flatV = true := by rw [List.all_map]; exact List.all_eq_true.mpr fun _ _ => rfl
    have ii := inV_ints 0 cs
    walk_at "go"
    rw [ii]
    by_cases h0 : 0 ∈ cs
    · rw [decide_eq_true h0]
      walk_at "go"
      refine iteD (fun z3 => ?_) (fun z3 => ?_)
      · walk_at "go"
        refine k _ fun q => q.2.2 ?_
        have hl := List.idxOf_lt_length_of_mem h0
        rw [Int.toNat_natCast, List.getD_eq_getElem?_getD, List.getElem?_eq_getElem hl, List.getElem_idxOf]
        rfl
      · walk_at "go"
        rw [lm]
        exact k _ last
    · rw [decide_eq_false h0]
      walk_at "go"
      rw [lm]
      exact k _ last
theorem ok__law_sizes {dvs : List V} (R : RawF K mg "_law_sizes" s__law_sizes ["_law_cell"] dvs) (T : Txt K mg a) :
    HasFn P w K mg base 1 "_law_sizes" ["_law_cell"] (spSizes30) dvs := by
  refine R.ok sc__law_sizes (fun vs H Q E h => ?_) (fun f cdv A outer s H vs Q E hr h => ?_)
  · obtain ⟨c, rfl, _⟩ := h
    rfl
  obtain ⟨c, rfl, k⟩ := h
  refine ⟨_, (@pss_cons _ _ _ _ _ (@ps_set _ _ 1 _ _ _ _ sc__law_sizes.nd rfl (by first | exact Or.inl rfl | exact Or.inr rfl) (@pe_lst _ _ _ _ (@pa_cn _ _ _ _ _ (pe_op op_add pe_int (pe_op op_mod (pe_op op_fdiv (pv 0) pe_int) pe_int)) (@pa_cn _ _ _ _ _ (pe_op op_mod (pe_op op_fdiv (pv 0) pe_int) pe_int) (@pa_cn _ _ _ _ _ (pe_op op_add pe_int (pe_op op_mod (pe_op op_fdiv (pv 0) pe_int) pe_int)) pa_nil rfl) rfl) rfl)) (by rfl) (by first | exact Or.inl rfl | exact Or.inr rfl))
      (@pss_cons _ _ _ _ _ (@ps_set _ _ 2 _ _ _ _ sc__law_sizes.nd rfl (by first | exact Or.inl rfl | exact Or.inr rfl) (pe_op op_mod (pe_op op_fdiv (pv 0) pe_int) (pe_op op_pow pe_int pe_int)) (by rfl) (by first | exact Or.inl rfl | exact Or.inr rfl))
      (@pss_cons _ _ _ _ _ (@ps_set _ _ 3 _ _ _ _ sc__law_sizes.nd rfl (by first | exact Or.inl rfl | exact Or.inr rfl) (pe_op op_mod (pv 0) pe_int) (by rfl) (by first | exact Or.inl rfl | exact Or.inr rfl))
      (@pss_cons _ _ _ _ _ (ps_asg (@pe_ix _ _ _ _ _ _ _ ix_list (@pe_lst _ _ _ _ (@pa_cn _ _ _ _ _ (pe_op op_sub (pe_op op_sub pe_int (pv 2)) (pe_callTy call_int1 (by rfl) T.b_int PyProof.Rows.Boot.«int» (@pa_cn _ _ _ _ _ (pe_cmpR op_eq (pv 3) pe_int (nomark _)) pa_nil rfl))) (@pa_cn _ _ _ _ _ (pe_op op_add pe_int (pv 2)) pa_nil rfl) rfl)) (pe_op op_mod (pe_op op_fdiv (pv 0) pe_int) pe_int) (fun _ _ => rfl)) (pg_sub (pv 1) (pv 3) set_list))
      (@pss_one _ _ _ (@ps_ret _ _ _ _ (pv 1))))))), ?_⟩
  have cp : CPow 10 30 := ⟨by decide, by decide, by decide⟩
  have p30 : (0 : Int) < (10 : Int) ^ (30 : Int).toNat := by decide
  have f0 := Int.emod_nonneg (c / 12) (show (10 : Int) ^ (30 : Int).toNat ≠ 0 by decide)
  have t0 := Int.emod_nonneg c (show (3 : Int) ≠ 0 by decide)
  have t1 := Int.emod_lt_of_pos c (show (0 : Int) < 3 by decide)
  have u0 := Int.emod_nonneg (c / 3) (show (2 : Int) ≠ 0 by decide)
  have u1 := Int.emod_lt_of_pos (c / 3) (show (0 : Int) < 2 by decide)
  have c12 : CDiv c 12 := ⟨by decide, by decide⟩
  walk_at "go"
  intro q hq
  dsimp only
  generalize 1 + c / 3 % 64 = A1
  generalize c / 5 % 65 = B1
  generalize 1 + c / 7 % 64 = C1
  have s1 : Same H (upd H q (.lst [.int A1, .int B1, .int C1])) := same_upd hq
  have e1 : upd H q (.lst [.int A1, .int B1, .int C1]) q = some (.lst [.int A1, .int B1, .int C1]) := upd_same
  generalize upd H q (.lst [.int A1, .int B1, .int C1]) = H1 at s1 e1
  walk_at "go"
  dsimp only
  refine .inr ⟨_, rfl, ?_⟩
  walk_at "go"
  intro q2 hq2
  dsimp only
  generalize c / 12 % (10 : Int) ^ (30 : Int).toNat = far at f0
  have hlo : (0 - far - if decide (V.int (c % 3) = V.int 1) = true then 1 else 0) ≤ 0 ∧ (c % 3 = 1 → (0 - far - if decide (V.int (c % 3) = V.int 1) = true then 1 else 0) < 0) := by
    by_cases z : c % 3 = 1
    · rw [if_pos (decide_eq_true (by rw [z]))]; omega
    · rw [if_neg (fun w => z (by have := of_decide_eq_true w; injection this))]; omega
  generalize (0 - far - if decide (V.int (c % 3) = V.int 1) = true then 1 else 0) = lo at hlo
  have s2 : Same H1 (upd H1 q2 (.lst [.int lo, .int (65 + far)])) := same_upd hq2
  have e2 : upd H1 q2 (.lst [.int lo, .int (65 + far)]) q2 = some (.lst [.int lo, .int (65 + far)]) := upd_same
  generalize upd H1 q2 (.lst [.int lo, .int (65 + far)]) = H2 at s2 e2
  have e12 := s2 _ _ e1
  obtain ⟨z, ez, hz⟩ : ∃ z : Int, atI [V.int lo, V.int (65 + far)] (c / 3 % 2) = some (.int z) ∧ (z = lo ∨ z = 65 + far) := by
    have : c / 3 % 2 = 0 ∨ c / 3 % 2 = 1 := by omega
    rcases this with e | e
    · exact ⟨lo, by rw [e]; rfl, .inl rfl⟩
    · exact ⟨65 + far, by rw [e]; rfl, .inr rfl⟩
  have tv : c % 3 = 0 ∨ c % 3 = 1 ∨ c % 3 = 2 := by omega
  rcases tv with tv | tv | tv
  · have x1 : ixN [V.int A1, V.int B1, V.int C1].length (c % 3) = some 0 := by rw [tv]; rfl
    walk_at "go"
    refine k q z B1 C1 _ (by rw [upd_same]; rfl) (fun b u e => by rw [upd_ne (ne_of_none e hq)]; exact s2 _ _ (s1 _ _ e)) fun w => ?_
    have := hlo.2
    omega
  · have x1 : ixN [V.int A1, V.int B1, V.int C1].length (c % 3) = some 1 := by rw [tv]; rfl
    walk_at "go"
    refine k q A1 z C1 _ (by rw [upd_same]; rfl) (fun b u e => by rw [upd_ne (ne_of_none e hq)]; exact s2 _ _ (s1 _ _ e)) fun w => ?_
    have := hlo.2
    omega
  · have x1 : ixN [V.int A1, V.int B1, V.int C1].length (c % 3) = some 2 := by rw [tv]; rfl
    walk_at "go"
    refine k q A1 B1 z _ (by rw [upd_same]; rfl) (fun b u e => by rw [upd_ne (ne_of_none e hq)]; exact s2 _ _ (s1 _ _ e)) fun w => ?_
    have := hlo.2
    omega
theorem ok__law_bad_words {dvs : List V} (R : RawF K mg "_law_bad_words" s__law_bad_words ["_law_size", "_law_cell"] dvs) (T : Txt K mg a) :
    HasFn P w K mg base 1 "_law_bad_words" ["_law_size", "_law_cell"] (spBad30) dvs := by
  refine R.ok sc__law_bad_words (fun vs H Q E h => ?_) (fun f cdv A outer s H vs Q E hr h => ?_)
  · obtain ⟨sz, c, rfl, _⟩ := h
    rfl
  obtain ⟨sz, c, rfl, sz1, sz64, k⟩ := h
  refine ⟨_, (pss_cons (ps_setC (j := 2) sc__law_bad_words.nd rfl rfl (xs := ["_law_k"]) (N' := ["_law_size", "_law_cell", "_law_row"]) rfl ⟨rfl, by decide +kernel, by decide +kernel, by dsimp only [cxOf, PyProof.Rows.envOfC]; decide +kernel, by decide +kernel, by dsimp only [cxOf]; decide +kernel, rfl⟩ (pi_range1 (by rfl) T.b_range (pa_cn (pv 0) pa_nil rfl)) (fun _ _ _ _ _ => (pg_name (i := 0) (by dsimp only [cxComp]; decide +kernel) rfl (by first | exact Or.inl rfl | exact Or.inr rfl))) (fun _ _ _ _ _ => pts_nil) (fun _ _ _ _ _ => (pe_op op_mod (pe_op op_mul (pv 2) (pe_op op_add (pv 0) pe_int)) (pe_op op_pow pe_int pe_int))))
      (pss_cons (ps_if (pt_cmpR op_eq (pe_op op_mod (pv 1) pe_int) pe_int (nomark _)) (pss_one (ps_ret (pe_slice sl_list (pv 2) po_none (po_some (pe_un un_neg pe_int))))) pss_nil)
      (pss_cons (ps_if (pt_cmpR op_eq (pe_op op_mod (pv 1) pe_int) pe_int (nomark _)) (pss_one (ps_ret (pe_op op_cat (pv 2) (pe_lst (pa_cn pe_int pa_nil rfl))))) pss_nil)
      (pss_cons (ps_asg (pe_ix ix_list (pe_lst (pa_cn (pe_op op_sub (pe_un un_neg pe_int) (pe_op op_mod (pe_op op_fdiv (pv 1) pe_int) (pe_op op_pow pe_int pe_int))) (pa_cn (pe_op op_add (pe_op op_pow pe_int pe_int) (pe_op op_mod (pe_op op_fdiv (pv 1) pe_int) (pe_op op_pow pe_int pe_int))) pa_nil rfl) rfl)) (pe_op op_mod (pv 1) pe_int) (fun _ _ => rfl)) (pg_sub (pv 2) (pe_op op_mod (pe_op op_fdiv (pv 1) pe_int) (pv 0)) set_list))
      (pss_one (ps_ret (pv 2))))))), ?_⟩
  have sn : sz.toNat < sizeLine := by rw [sizeLine_eq]; omega
  walk_at "go"
  intro q hq
  refine comp_range hq (fun i => .int (c * (0 + (i : Int) + 3) % 2 ^ (64 : Int).toNat)) (fun _ => true) sn (fun i ys hi R r => r) (fun i ys hi _ R r => ?_) ?_
  · have cm : CMul c (0 + (i : Int) + 3) := .inr ⟨by omega, by omega⟩
    have cp : CPow 2 64 := ⟨by decide, by decide, by decide⟩
    have p64 : (0 : Int) < 2 ^ (64 : Int).toNat := by decide
    walk_at "go"
    exact r
  · have e : ((List.range sz.toNat).filter fun _ => true).map (fun i : Nat => V.int (c * (0 + (i : Int) + 3) % 2 ^ (64 : Int).toNat)) = ((List.range sz.toNat).map fun i : Nat => c * (0 + (i : Int) + 3) % 2 ^ (64 : Int).toNat).map V.int := by
      rw [filter_tt, List.map_map]
      rfl
    rw [e]
    have wl : ((List.range sz.toNat).map fun i : Nat => c * (0 + (i : Int) + 3) % 2 ^ (64 : Int).toNat).length = sz.toNat := by rw [List.length_map, List.length_range]
    generalize ((List.range sz.toNat).map fun i : Nat => c * (0 + (i : Int) + 3) % 2 ^ (64 : Int).toNat) = ws at wl
    have s1 : Same H (upd H q (.lst (ws.map V.int))) := same_upd hq
    have e1 : upd H q (.lst (ws.map V.int)) q = some (.lst (ws.map V.int)) := upd_same
    generalize upd H q (.lst (ws.map V.int)) = H1 at s1 e1
    walk_at "go"
    refine iteI (fun z => ?_) (fun z => ?_)
    · obtain ⟨ms, ems, lms⟩ := cut_ints ws none (some (-1))
      have ml : ms.length = sz.toNat - 1 := by
        have e2 : (cutV (ws.map V.int) none (some (-1))).length = ms.length := by rw [ems, List.length_map]
        rw [← e2]
        unfold cutV
        rw [List.length_take, List.length_drop, List.length_map, wl]
        show min ((-1 + ((sz.toNat : Nat) : Int)).toNat - 0) (sz.toNat - 0) = _
        omega
      walk_at "go"
      intro p2 hp2
      rw [ems]
      exact k p2 ms _ (none_ofG s1 hp2) upd_same (s1.trans (same_upd hp2)) fun w => by have := w.1; omega
    · walk_at "go"
      refine iteI (fun z2 => ?_) (fun z2 => ?_)
      · walk_at "go"
        intro p2 hp2
        have s2 : Same H1 (upd H1 p2 (.lst [.int 0])) := same_upd hp2
        have e2 : upd H1 p2 (.lst [.int 0]) p2 = some (.lst [.int 0]) := upd_same
        generalize upd H1 p2 (.lst [.int 0]) = H2 at s2 e2
        have e12 := s2 _ _ e1
        have zl : (ws.map V.int).length + [V.int 0].length ≤ sizeLine := by rw [List.length_map, wl, sizeLine_eq]; show _ + 1 ≤ _; omega
        walk_at "go"
        intro p3 hp3
        refine k p3 (ws ++ [0]) _ (none_ofG (s1.trans s2) hp3) (by rw [upd_same, List.map_append]; rfl) ((s1.trans s2).trans (same_upd hp3)) fun w => ?_
        have := w.1
        rw [List.length_append, wl] at this
        simp at this
        omega
      · have cp : CPow 10 30 := ⟨by decide, by decide, by decide⟩
        have cp2 : CPow 2 64 := ⟨by decide, by decide, by decide⟩
        have p30 : (0 : Int) < (10 : Int) ^ (30 : Int).toNat := by decide
        have f0 := Int.emod_nonneg (c / 4) (show (10 : Int) ^ (30 : Int).toNat ≠ 0 by decide)
        have j0 := Int.emod_nonneg (c / 4) (show sz ≠ 0 by omega)
        have j1 := Int.emod_lt_of_pos (c / 4) (show 0 < sz by omega)
        walk_at "go"
        intro p2 hp2
        dsimp only
        generalize c / 4 % (10 : Int) ^ (30 : Int).toNat = far at f0
        have s2 : Same H1 (upd H1 p2 (.lst [.int (-1 - far), .int (2 ^ (64 : Int).toNat + far)])) := same_upd hp2
        have e2 : upd H1 p2 (.lst [.int (-1 - far), .int (2 ^ (64 : Int).toNat + far)]) p2 = some (.lst [.int (-1 - far), .int (2 ^ (64 : Int).toNat + far)]) := upd_same
        generalize upd H1 p2 (.lst [.int (-1 - far), .int (2 ^ (64 : Int).toNat + far)]) = H2 at s2 e2
        have e12 := s2 _ _ e1
        obtain ⟨y, ey, hy⟩ : ∃ y : Int, atI [V.int (-1 - far), V.int (2 ^ (64 : Int).toNat + far)] (c % 2) = some (.int y) ∧ ¬ IsWord y := by
          have : c % 2 = 0 ∨ c % 2 = 1 := by omega
          rcases this with e | e
          · exact ⟨-1 - far, by rw [e]; rfl, fun w => by have := w.1; omega⟩
          · exact ⟨2 ^ (64 : Int).toNat + far, by rw [e]; rfl, bad_up f0⟩
        obtain ⟨j, ej⟩ : ∃ j : Nat, c / 4 % sz = (j : Int) := ⟨(c / 4 % sz).toNat, by omega⟩
        have x1 : ixN (ws.map V.int).length (c / 4 % sz) = some j := by
          rw [ej]
          unfold ixN
          rw [if_pos (by omega), if_pos (by rw [List.length_map, wl]; omega), Int.toNat_natCast]
        walk_at "go"
        refine k q (ws.set j y) _ hq (by rw [upd_same, List.map_set]) (fun b u e => by rw [upd_ne (ne_of_none e hq)]; exact s2 _ _ (s1 _ _ e)) fun w => hy (w.2 y ?_)
        exact List.mem_iff_getElem.mpr ⟨j, by rw [List.length_set, wl]; omega, by rw [List.getElem_set_self]⟩
end
end K30

set_option maxHeartbeats 4000000
namespace K30
open PySem L2
theorem room_at {R : Rooms} {j : Nat} {c : Int} {ws : List Int} (q : R[j]? = some (c, ws)) (hc : c ≠ 0) : Used R (j : Int) ∧ cntOf R (j : Int) = c ∧ rowOf R (j : Int) = ws := by
  have e1 : R.cs.getD (j : Int).toNat 0 = c := by rw [Int.toNat_natCast, List.getD_eq_getElem?_getD, List.getElem?_map, q]; rfl
  have e2 : rowOf R (j : Int) = ws := by unfold rowOf; rw [Int.toNat_natCast, List.getD_eq_getElem?_getD, List.getElem?_map, q]; rfl
  exact ⟨⟨⟨by omega, by rw [List.length_map]; have := (List.getElem?_eq_some_iff.mp q).1; omega⟩, by rw [e1]; exact hc⟩, e1, e2⟩
theorem used_at {R : Rooms} {n : Int} (u : Used R n) : R[n.toNat]? = some (cntOf R n, rowOf R n) ∧ cntOf R n ≠ 0 := by
  obtain ⟨c, row, e, e1, e2, hc⟩ := u.get1
  rw [← e1, ← e2]; exact ⟨e, hc⟩
theorem datAll_bls (K : PySem.W.Frag) (H : Hp) : ∀ bs : List Bool, DatAll K H (bs.map V.bl) (bs.map PyData.bool)
  | [] => .nil
  | b :: bs => .cons (.bl b) (datAll_bls K H bs)
def usedR (R : Rooms) : List (List Int) := (R.filter fun p => decide (0 < p.1)).map (·.2)
structure Tld (H : Hp) (q f s m : Addr) (rw : List Addr) (R S : Rooms) (bs : List Bool) (rws : List (List Int)) : Prop where
  hq : H q = some (.lst ([.ref f, .ref s, .ref m, .int ((R.cs.count 0 : Nat) + (S.cs.count 0 : Nat))] ++ rw.map V.ref))
  hf : H f = some (.lst (R.cs.map V.int))
  hs : H s = some (.lst (S.cs.map V.int))
  hm : H m = some (.lst (bs.map V.bl))
  len : rw.length = rws.length
  at' : ∀ (i : Nat) b r, rw[i]? = some b → rws[i]? = some r → H b = some (.lst (r.map V.int))
  ne : f ≠ q ∧ s ≠ q ∧ m ≠ q ∧ ∀ b ∈ rw, b ≠ q
def toldD (R S : Rooms) (bs : List Bool) : PyData := .list ([.list (R.cs.map .int), .list (S.cs.map .int), .list (bs.map .bool), .int ((R.cs.count 0 : Nat) + (S.cs.count 0 : Nat))] ++ (usedR R ++ usedR S).map fun r => .list (r.map .int))
def Told (H : Hp) (q : Addr) (R S : Rooms) (bs : List Bool) : Prop := ∃ f s m rw, Tld H q f s m rw R S bs (usedR R ++ usedR S)
def spTold30 (a : Adr) : Sp := fun vs H Q _ => ∃ (p : Addr) (sz : Int) (R S : Rooms) (bs : List Bool) (st : Nat) (fp : List Addr), vs = [.ref p] ∧ PlAt a H p sz R S bs st fp ∧ ∀ q H', Told H' q R S bs → Same H H' → Q (.ref q) H'
theorem rows_dat {K : PySem.W.Frag} {H : Hp} : ∀ {rw : List Addr} {rws : List (List Int)}, rw.length = rws.length → (∀ (i : Nat) b r, rw[i]? = some b → rws[i]? = some r → H b = some (.lst (r.map V.int))) → DatAll K H (rw.map V.ref) (rws.map fun r => .list (r.map PyData.int))
  | [], [], _, _ => .nil
  | [], _ :: _, h, _ => by cases h
  | _ :: _, [], h, _ => by cases h
  | b :: rw, r :: rws, h, e => .cons (.lst (SqL.of (e 0 b r rfl rfl)) (datAll_ints _ _ r)) (rows_dat (by simpa using h) fun i b' r' h1 h2 => e (i + 1) b' r' (by simpa using h1) (by simpa using h2))
theorem Told.dat {K : PySem.W.Frag} {H : Hp} {q : Addr} {R S : Rooms} {bs : List Bool} (h : Told H q R S bs) : DatV K H (.ref q) (toldD R S bs) := by
  obtain ⟨f, s, m, rw, t⟩ := h
  exact .lst (SqL.of t.hq) (.cons (.lst (SqL.of t.hf) (datAll_ints _ _ _)) (.cons (.lst (SqL.of t.hs) (datAll_ints _ _ _)) (.cons (.lst (SqL.of t.hm) (datAll_bls _ _ _)) (.cons (.int _) (rows_dat t.len t.at')))))
theorem Tid.bls (bs : List Bool) : Tid 2 (.list (bs.map PyData.bool)) := Tid.list fun d hd => by
  rw [List.mem_map] at hd
  obtain ⟨i, _, rfl⟩ := hd
  exact Tid.bool i
theorem told_tid (R S : Rooms) (bs : List Bool) : Tid 3 (toldD R S bs) := Tid.list fun d hd => by
  rcases List.mem_append.mp hd with hd | hd
  · simp only [List.mem_cons, List.not_mem_nil, or_false] at hd
    rcases hd with rfl | rfl | rfl | rfl
    · exact Tid.ints _
    · exact Tid.ints _
    · exact Tid.bls _
    · exact (Tid.int _).mono (by decide)
  · obtain ⟨r, _, rfl⟩ := List.mem_map.mp hd
    exact Tid.ints r
section
variable {H H' : Hp} {q f s m : Addr} {rw : List Addr} {R S : Rooms} {bs : List Bool} {rws : List (List Int)}
theorem Tld.same (t : Tld H q f s m rw R S bs rws) (e : Same H H') : Tld H' q f s m rw R S bs rws :=
  ⟨e _ _ t.hq, e _ _ t.hf, e _ _ t.hs, e _ _ t.hm, t.len, fun i b r h1 h2 => e _ _ (t.at' i b r h1 h2), t.ne⟩
theorem Told.same (t : Told H q R S bs) (e : Same H H') : Told H' q R S bs := let ⟨f, s, m, rw, t⟩ := t; ⟨f, s, m, rw, t.same e⟩
theorem Tld.add (t : Tld H q f s m rw R S bs rws) {b : Addr} {r : List Int} (hb : H b = some (.lst (r.map V.int))) (nb : b ≠ q) : Tld (upd H q (.lst (([.ref f, .ref s, .ref m, .int ((R.cs.count 0 : Nat) + (S.cs.count 0 : Nat))] ++ rw.map V.ref) ++ [.ref b]))) q f s m (rw ++ [b]) R S bs (rws ++ [r]) := by
  refine ⟨by rw [upd_same, List.map_append, List.append_assoc]; rfl, by rw [upd_ne t.ne.1]; exact t.hf, by rw [upd_ne t.ne.2.1]; exact t.hs, by rw [upd_ne t.ne.2.2.1]; exact t.hm, by rw [List.length_append, List.length_append, t.len]; rfl, fun i b' r' h1 h2 => ?_, t.ne.1, t.ne.2.1, t.ne.2.2.1, fun b' h => ?_⟩
  · by_cases c : i < rw.length
    · rw [List.getElem?_append_left c] at h1
      rw [List.getElem?_append_left (by rw [← t.len]; exact c)] at h2
      rw [upd_ne (t.ne.2.2.2 _ (List.mem_of_getElem? h1))]
      exact t.at' i b' r' h1 h2
    · rw [List.getElem?_append_right (by omega)] at h1
      rw [List.getElem?_append_right (by rw [← t.len]; omega), ← t.len] at h2
      cases z : i - rw.length with
      | zero => rw [z] at h1 h2; cases h1; cases h2; rw [upd_ne nb]; exact hb
      | succ k => rw [z] at h1; cases h1
  · rcases List.mem_append.mp h with h | h
    · exact t.ne.2.2.2 _ h
    · rw [List.mem_singleton.mp h]; exact nb
theorem usedR_take {i : Nat} {c : Int} {ws : List Int} (h : R[i]? = some (c, ws)) : usedR (R.take (i + 1)) = usedR (R.take i) ++ (if 0 < c then [ws] else []) := by
  unfold usedR
  rw [List.take_add_one, h, List.filter_append, List.map_append]
  by_cases z : 0 < c
  · rw [if_pos z]; simp [z]
  · rw [if_neg z]; simp [z]
end
section
variable {P : Program} {w : World} {K : PySem.W.Frag} {mg : Str → Option Value} {base : Heap} {a : Adr}
theorem ok__law_told {dvs : List V} (R : RawF K mg "_law_told" s__law_told ["_law_pool"] dvs) (T : Txt K mg a)
    (h_Pool_room : HasMe P w K mg base a.c_Pool 3 "room" ["self"] (spPRoom a) [])
    (h_Pool_marks : HasMe P w K mg base a.c_Pool 2 "marks" ["self"] (spPMarks a) [])
    (h_Pool_slots : HasMe P w K mg base a.c_Pool 3 "slots" ["self"] (spPSlots a) [])
    (h_Pool_frames : HasMe P w K mg base a.c_Pool 3 "frames" ["self"] (spPFrames a) [])
    (h_Pool_words : HasMe P w K mg base a.c_Pool 4 "words" ["self", "leaf"] (spPWords a) [])
    (h_Held___init__ : HasMk P w K mg base a.c_Held 3 ["self", "rights", "frame"] (spHeldInit a) [])
    (h_Out___init__ : HasMk P w K mg base a.c_Out 3 ["self", "rights", "slot"] (spOutInit a) []) :
    HasFn P w K mg base 5 "_law_told" ["_law_pool"] (spTold30 a) dvs := by
  refine R.ok sc__law_told (fun vs H Q E h => ?_) (fun f cdv A outer s H vs Q E hr h => ?_)
  · obtain ⟨p, sz, Rr, Ss, bs, st, fp, rfl, _⟩ := h
    rfl
  obtain ⟨p, sz, Rr, Ss, bs, st, fp, rfl, PL, k⟩ := h
  refine ⟨_, (@pss_cons _ _ _ _ _ (@ps_set _ _ 1 _ _ _ _ sc__law_told.nd rfl (by first | exact Or.inl rfl | exact Or.inr rfl) (@pe_lst _ _ _ _ (@pa_cn _ _ _ _ _ (pe_me0 (pv 0) T.cl_Pool h_Pool_frames (hr.mono (by decide)) pass_def) (@pa_cn _ _ _ _ _ (pe_me0 (pv 0) T.cl_Pool h_Pool_slots (hr.mono (by decide)) pass_def) (@pa_cn _ _ _ _ _ (pe_me0 (pv 0) T.cl_Pool h_Pool_marks (hr.mono (by decide)) pass_def) (@pa_cn _ _ _ _ _ (pe_me0 (pv 0) T.cl_Pool h_Pool_room (hr.mono (by decide)) pass_def) pa_nil rfl) rfl) rfl) rfl)) (by rfl) (by first | exact Or.inl rfl | exact Or.inr rfl))
      (@pss_cons _ _ _ _ _ (ps_for own_def rfl (pi_range1 (by rfl) T.b_range (@pa_cn _ _ _ _ _ (pe_callB call_len_seq (by rfl) T.b_len PySem.boot_len (@pa_cn _ _ _ _ _ (@pe_ix _ _ _ _ _ _ _ ix_list (pv 1) pe_int (fun _ _ => rfl)) pa_nil rfl)) pa_nil rfl)) (pg_name (i := 2) sc__law_told.nd rfl (by first | exact Or.inl rfl | exact Or.inr rfl))
      (@pss_one _ _ _ (ps_if (pt_cmpR op_gt (@pe_ix _ _ _ _ _ _ _ ix_list (@pe_ix _ _ _ _ _ _ _ ix_list (pv 1) pe_int (fun _ _ => rfl)) (pv 2) (fun _ _ => rfl)) pe_int (nomark _)) (@pss_one _ _ _ (ps_expr (pe_bm PySem.F.plainAttrs_list PySem.F.slot_list_append PySem.F.type_list_append mt_append (pv 1) (@pa_cn _ _ _ _ _ (pe_me (pv 0) T.cl_Pool h_Pool_words (hr.mono (by decide)) pass_def (@pa_cn _ _ _ _ _ (pe_mk h_Held___init__ (hr.mono (by decide)) (by rfl) T.m_Held pass_def (@pa_cn _ _ _ _ _ pe_int (@pa_cn _ _ _ _ _ (pv 2) pa_nil rfl) rfl)) pa_nil rfl)) pa_nil rfl)))) pss_nil)))
      (@pss_cons _ _ _ _ _ (ps_for own_def rfl (pi_range1 (by rfl) T.b_range (@pa_cn _ _ _ _ _ (pe_callB call_len_seq (by rfl) T.b_len PySem.boot_len (@pa_cn _ _ _ _ _ (@pe_ix _ _ _ _ _ _ _ ix_list (pv 1) pe_int (fun _ _ => rfl)) pa_nil rfl)) pa_nil rfl)) (pg_name (i := 2) sc__law_told.nd rfl (by first | exact Or.inl rfl | exact Or.inr rfl))
      (@pss_one _ _ _ (ps_if (pt_cmpR op_gt (@pe_ix _ _ _ _ _ _ _ ix_list (@pe_ix _ _ _ _ _ _ _ ix_list (pv 1) pe_int (fun _ _ => rfl)) (pv 2) (fun _ _ => rfl)) pe_int (nomark _)) (@pss_one _ _ _ (ps_expr (pe_bm PySem.F.plainAttrs_list PySem.F.slot_list_append PySem.F.type_list_append mt_append (pv 1) (@pa_cn _ _ _ _ _ (pe_me (pv 0) T.cl_Pool h_Pool_words (hr.mono (by decide)) pass_def (@pa_cn _ _ _ _ _ (pe_mk h_Out___init__ (hr.mono (by decide)) (by rfl) T.m_Out pass_def (@pa_cn _ _ _ _ _ pe_int (@pa_cn _ _ _ _ _ (pv 2) pa_nil rfl) rfl)) pa_nil rfl)) pa_nil rfl)))) pss_nil)))
      (@pss_one _ _ _ (@ps_ret _ _ _ _ (pv 1)))))), ?_⟩
  obtain ⟨dx, f1', g, h, f2', f3', f4', P', _⟩ := id PL
  have hp := P'.ob
  have t1 := T.cl_Pool
  have r64 : Rr.length ≤ 64 := P'.s1.r64
  have s64 : Ss.length ≤ 64 := P'.s2.r64
  have nn1 := P'.w1.nn
  have nn2 := P'.w2.nn
  walk_at "go"
  intro f hf
  have s1 : Same H (upd H f (.lst (Rr.cs.map V.int))) := same_upd hf
  have e1 : upd H f (.lst (Rr.cs.map V.int)) f = some (.lst (Rr.cs.map V.int)) := upd_same
  generalize upd H f (.lst (Rr.cs.map V.int)) = H1 at s1 e1
  have hp1 := s1 _ _ hp
  have PL1 := PL.same s1
  walk_at "go"
  intro s' hs
  have s2 : Same H1 (upd H1 s' (.lst (Ss.cs.map V.int))) := same_upd hs
  have e2 : upd H1 s' (.lst (Ss.cs.map V.int)) s' = some (.lst (Ss.cs.map V.int)) := upd_same
  generalize upd H1 s' (.lst (Ss.cs.map V.int)) = H2 at s2 e2
  have hp2 := s2 _ _ hp1
  have PL2 := PL1.same s2
  walk_at "go"
  intro m hm
  have s3 : Same H2 (upd H2 m (.lst (bs.map V.bl))) := same_upd hm
  have e3 : upd H2 m (.lst (bs.map V.bl)) m = some (.lst (bs.map V.bl)) := upd_same
  generalize upd H2 m (.lst (bs.map V.bl)) = H3 at s3 e3
  have hp3 := s3 _ _ hp2
  have PL3 := PL2.same s3
  walk_at "go"
  intro q hq
  have s4 : Same H3 (upd H3 q (.lst [.ref f, .ref s', .ref m, .int ((Rr.cs.count 0 : Nat) + (Ss.cs.count 0 : Nat))])) := same_upd hq
  have T4 : Tld (upd H3 q (.lst [.ref f, .ref s', .ref m, .int ((Rr.cs.count 0 : Nat) + (Ss.cs.count 0 : Nat))])) q f s' m [] Rr Ss bs [] :=
    ⟨upd_same, s4 _ _ (s3 _ _ (s2 _ _ e1)), s4 _ _ (s3 _ _ e2), s4 _ _ e3, rfl, fun i b r h => (nomatch h), ne_of_none (s3 _ _ (s2 _ _ e1)) hq, ne_of_none (s3 _ _ e2) hq, ne_of_none e3 hq, fun b h => (nomatch h)⟩
  generalize upd H3 q (.lst [.ref f, .ref s', .ref m, .int ((Rr.cs.count 0 : Nat) + (Ss.cs.count 0 : Nat))]) = H4 at s4 T4
  have s04 := ((s1.trans s2).trans s3).trans s4
  have q0 : H q = none := none_ofG ((s1.trans s2).trans s3) hq
  have hq4 := T4.hq
  have hf4 := T4.hf
  have a0 : atI ([V.ref f, V.ref s', V.ref m, V.int ((Rr.cs.count 0 : Nat) + (Ss.cs.count 0 : Nat))] ++ ([] : List Addr).map V.ref) 0 = some (.ref f) := rfl
  have lR : (Rr.cs.map V.int).length = Rr.length := by rw [List.length_map, List.length_map]
  have lS : (Ss.cs.map V.int).length = Ss.length := by rw [List.length_map, List.length_map]
  walk_at "go"
  refine for_range (fun i σ H' => Bx (∃ (v2 : Option V) (rw : List Addr), σ = [some (.ref p), some (.ref q), v2] ∧ Same H H' ∧ Tld H' q f s' m rw Rr Ss bs (usedR (Rr.take i)))) ⟨_, [], rfl, s04, T4⟩ ?_ ?_
  · rintro i σ H5 hi ⟨v2, rw', rfl, s5, T5⟩
    have il : i < Rr.length := by omega
    obtain ⟨⟨c, ws⟩, hR⟩ : ∃ p, Rr[i]? = some p := ⟨_, List.getElem?_eq_getElem il⟩
    have tk := usedR_take hR
    have hq5 := T5.hq
    have hf5 := T5.hf
    have hp5 := s5 _ _ hp
    have PL5 := PL.same s5
    have a0 : atI ([V.ref f, V.ref s', V.ref m, V.int ((Rr.cs.count 0 : Nat) + (Ss.cs.count 0 : Nat))] ++ rw'.map V.ref) 0 = some (.ref f) := atI_nat (j := 0) rfl
    have ac : atI (Rr.cs.map V.int) (0 + (i : Int)) = some (.int c) := by
      rw [Int.zero_add]; exact atI_nat (by rw [List.getElem?_map, List.getElem?_map, hR]; rfl)
    have c0 := nn1 c (List.mem_map.mpr ⟨_, List.mem_of_getElem? hR, rfl⟩)
    walk_at "go"
    refine iteD (fun z => ?_) (fun z => ?_)
    · obtain ⟨us, ec, er⟩ := room_at hR (by omega)
      have rl : rw'.length ≤ 200 := by
        rw [T5.len]
        unfold usedR
        rw [List.length_map]
        have := List.length_filter_le (fun p : Int × List Int => decide (0 < p.1)) (Rr.take i)
        rw [List.length_take] at this
        omega
      walk_at "go"
      refine fun y dy hy hdy ne => ⟨y, dy, 0, 0 + (i : Int), rfl, upd_same, fun _ => ⟨rfl, ?_⟩, fun z => absurd ⟨by decide, by decide⟩ z⟩
      have s6 : Same H5 (upd (upd (upd H5 dy (.own y)) y (.ins a.c_Held dy [])) y (.ins a.c_Held dy (Lf.held 0 (0 + (i : Int))).fs)) := fun b u e => by
        rw [upd_ne (ne_of_none e hy), upd_ne (ne_of_none e hy), upd_ne (ne_of_none e hdy)]; exact e
      have lf : LfAt a (upd (upd (upd H5 dy (.own y)) y (.ins a.c_Held dy [])) y (.ins a.c_Held dy (Lf.held 0 (0 + (i : Int))).fs)) y (Lf.held 0 (0 + (i : Int))) := ⟨dy, upd_same⟩
      generalize upd (upd (upd H5 dy (.own y)) y (.ins a.c_Held dy [])) y (.ins a.c_Held dy (Lf.held 0 (0 + (i : Int))).fs) = H6 at s6 lf
      have PL6 := PL5.same s6
      have hp6 := s6 _ _ hp5
      walk_at "go"
      refine ⟨fun r' f' e => ?_, fun r' f' e => (by cases e), fun z => (by rcases z with z | z <;> cases z)⟩
      cases e
      rw [Int.zero_add]
      refine ⟨fun _ b hb => ?_, fun z => absurd us z⟩
      rw [er]
      have s7 : Same H6 (upd H6 b (.lst (ws.map V.int))) := same_upd hb
      have e7 : upd H6 b (.lst (ws.map V.int)) b = some (.lst (ws.map V.int)) := upd_same
      generalize upd H6 b (.lst (ws.map V.int)) = H7 at s7 e7
      have T7 := T5.same (s6.trans s7)
      have hq7 := T7.hq
      have nb : b ≠ q := fun z => by rw [z, (T5.same s6).hq] at hb; cases hb
      have zl : ([V.ref f, V.ref s', V.ref m, V.int ((Rr.cs.count 0 : Nat) + (Ss.cs.count 0 : Nat))] ++ rw'.map V.ref).length < sizeLine := by
        rw [List.length_append, List.length_map, sizeLine_eq]; show 4 + _ < _; omega
      walk_at "go"
      refine ⟨_, rw' ++ [b], rfl, fun b' u e => ?_, ?_⟩
      · rw [upd_ne (ne_of_none e q0)]; exact s7 _ _ (s6 _ _ (s5 _ _ e))
      · have := T7.add e7 nb
        rw [tk, if_pos z]
        exact this
    · walk_at "go"
      refine ⟨_, rw', rfl, s5, ?_⟩
      rw [tk, if_neg z, List.append_nil]
      exact T5
  · rintro σ H5 ⟨v2, rw', rfl, s5, T5⟩
    rw [lR, Int.toNat_natCast, List.take_length] at T5
    have hq5 := T5.hq
    have hs5 := T5.hs
    have a1 : atI ([V.ref f, V.ref s', V.ref m, V.int ((Rr.cs.count 0 : Nat) + (Ss.cs.count 0 : Nat))] ++ rw'.map V.ref) 1 = some (.ref s') := atI_nat (j := 1) rfl
    walk_at "go"
    refine for_range (fun i σ H' => Bx (∃ (v2 : Option V) (rw : List Addr), σ = [some (.ref p), some (.ref q), v2] ∧ Same H H' ∧ Tld H' q f s' m rw Rr Ss bs (usedR Rr ++ usedR (Ss.take i)))) ⟨_, rw', rfl, s5, by rw [List.take_zero]; unfold usedR at T5 ⊢; simpa using T5⟩ ?_ ?_
    · rintro i σ H5 hi ⟨v2, rw', rfl, s5, T5⟩
      have il : i < Ss.length := by omega
      obtain ⟨⟨c, ws⟩, hR⟩ : ∃ p, Ss[i]? = some p := ⟨_, List.getElem?_eq_getElem il⟩
      have tk := usedR_take hR
      have hq5 := T5.hq
      have hf5 := T5.hs
      have hp5 := s5 _ _ hp
      have PL5 := PL.same s5
      have a0 : atI ([V.ref f, V.ref s', V.ref m, V.int ((Rr.cs.count 0 : Nat) + (Ss.cs.count 0 : Nat))] ++ rw'.map V.ref) 1 = some (.ref s') := atI_nat (j := 1) rfl
      have ac : atI (Ss.cs.map V.int) (0 + (i : Int)) = some (.int c) := by
        rw [Int.zero_add]; exact atI_nat (by rw [List.getElem?_map, List.getElem?_map, hR]; rfl)
      have c0 := nn2 c (List.mem_map.mpr ⟨_, List.mem_of_getElem? hR, rfl⟩)
      walk_at "go"
      refine iteD (fun z => ?_) (fun z => ?_)
      · obtain ⟨us, ec, er⟩ := room_at hR (by omega)
        have rl : rw'.length ≤ 200 := by
          rw [T5.len, List.length_append]
          unfold usedR
          rw [List.length_map, List.length_map]
          have := List.length_filter_le (fun p : Int × List Int => decide (0 < p.1)) (Ss.take i)
          have := List.length_filter_le (fun p : Int × List Int => decide (0 < p.1)) Rr
          rw [List.length_take] at *
          omega
        walk_at "go"
        refine fun y dy hy hdy ne => ⟨y, dy, 0, 0 + (i : Int), rfl, upd_same, fun _ => ⟨rfl, ?_⟩, fun z => absurd ⟨by decide, by decide⟩ z⟩
        have s6 : Same H5 (upd (upd (upd H5 dy (.own y)) y (.ins a.c_Out dy [])) y (.ins a.c_Out dy (Lf.out 0 (0 + (i : Int))).fs)) := fun b u e => by
          rw [upd_ne (ne_of_none e hy), upd_ne (ne_of_none e hy), upd_ne (ne_of_none e hdy)]; exact e
        have lf : LfAt a (upd (upd (upd H5 dy (.own y)) y (.ins a.c_Out dy [])) y (.ins a.c_Out dy (Lf.out 0 (0 + (i : Int))).fs)) y (Lf.out 0 (0 + (i : Int))) := ⟨dy, upd_same⟩
        generalize upd (upd (upd H5 dy (.own y)) y (.ins a.c_Out dy [])) y (.ins a.c_Out dy (Lf.out 0 (0 + (i : Int))).fs) = H6 at s6 lf
        have PL6 := PL5.same s6
        have hp6 := s6 _ _ hp5
        walk_at "go"
        refine ⟨fun r' f' e => (by cases e), fun r' f' e => ?_, fun z => (by rcases z with z | z <;> cases z)⟩
        cases e
        rw [Int.zero_add]
        refine ⟨fun _ b hb => ?_, fun z => absurd us z⟩
        rw [er]
        have s7 : Same H6 (upd H6 b (.lst (ws.map V.int))) := same_upd hb
        have e7 : upd H6 b (.lst (ws.map V.int)) b = some (.lst (ws.map V.int)) := upd_same
        generalize upd H6 b (.lst (ws.map V.int)) = H7 at s7 e7
        have T7 := T5.same (s6.trans s7)
        have hq7 := T7.hq
        have nb : b ≠ q := fun z => by rw [z, (T5.same s6).hq] at hb; cases hb
        have zl : ([V.ref f, V.ref s', V.ref m, V.int ((Rr.cs.count 0 : Nat) + (Ss.cs.count 0 : Nat))] ++ rw'.map V.ref).length < sizeLine := by
          rw [List.length_append, List.length_map, sizeLine_eq]; show 4 + _ < _; omega
        walk_at "go"
        refine ⟨_, rw' ++ [b], rfl, fun b' u e => ?_, ?_⟩
        · rw [upd_ne (ne_of_none e q0)]; exact s7 _ _ (s6 _ _ (s5 _ _ e))
        · have := T7.add e7 nb
          rw [tk, if_pos z, ← List.append_assoc]
          exact this
      · walk_at "go"
        refine ⟨_, rw', rfl, s5, ?_⟩
        rw [tk, if_neg z, List.append_nil]
        exact T5
    · rintro σ H6 ⟨v2, rw2, rfl, s6, T6⟩
      rw [lS, Int.toNat_natCast, List.take_length] at T6
      walk_at "go"
      exact k q H6 ⟨f, s', m, rw2, T6⟩ s6
end
end K30

set_option maxHeartbeats 4000000
namespace K30
open PySem L2
def rEqNil : R2 := fun x y H Q => ∃ p q, x = .ref p ∧ y = .ref q ∧ ∃ xs : List V, H p = some (.lst xs) ∧ H q = some (.lst []) ∧ Q (.bl (decide (xs = []))) H
theorem op_eqNil {X : Cx} (hu : X.A.units + 64 < cLine) : OpR X (compareOp .Eq) rEqNil := by
  intro pins s σ H x y v u Q I rx ry h
  obtain ⟨p, q, rfl, rfl, xs, h1, h2, k⟩ := h
  cases rx
  cases ry
  obtain ⟨its, rv, pl, _⟩ := I.list (SqL.of (K := X.K) h1)
  obtain ⟨its2, rv2, pl2, _⟩ := I.list (SqL.of (K := X.K) h2)
  have e2 : its2 = [] := by cases rv2; rfl
  subst e2
  have hl := rv.length
  cases xs with
  | nil =>
    have e1 : its = [] := by cases rv; rfl
    subst e1
    refine SeqAt.eq_listAt (e := fun _ => true) pl.isList pl2.isList rfl (by omega) (fun j h1 h2 => absurd h1 (by simp)) ⟨.bl true, H, I, rfl, by simpa using k⟩
  | cons a r =>
    refine SeqAt.eq_list_lengthsAt pl.isList pl2.isList ?_ (by omega) ⟨.bl false, H, I, rfl, by simpa using k⟩
    simp only [List.length_cons] at hl
    simp
    intro z
    rw [z] at hl
    simp at hl
theorem newO {H H' : Hp} {q : Addr} {o : HO} (hq : H q = none) (hh : upd H q o = H') : Same H H' ∧ H' q = some o := by subst hh; exact ⟨same_upd hq, upd_same⟩
theorem newI {H H' : Hp} {y dy : Addr} {o o1 o2 : HO} (hy : H y = none) (hdy : H dy = none) (hh : upd (upd (upd H dy o1) y o2) y o = H') : Same H H' ∧ H' y = some o := by
  subst hh
  refine ⟨fun b u e => ?_, upd_same⟩
  rw [upd_ne (ne_of_none e hy), upd_ne (ne_of_none e hy), upd_ne (ne_of_none e hdy)]; exact e
theorem length_putK_in {kvs : List (Key × V)} {k : Key} {v v' : V} (h : valV kvs k = some v) : (putK kvs k v').length = kvs.length := by
  have a : (kvs.any fun kv => decide (kv.1 = k)) = true := by rw [valV_any, h]; rfl
  unfold putK
  rw [if_pos a, List.length_map]
structure Dk (a : Adr) (H : Hp) (R S : Rooms) (sz : Int) (fp : List Addr) (da : Addr) (kvs : List (Key × V)) (n j v : Int) : Prop where
  hd : H da = some (.dK kvs)
  len : kvs.length ≤ 20
  vw : ∃ w ws, valV kvs (.inr "words") = some (.ref w) ∧ H w = some (.lst (ws.map V.int)) ∧ w ∉ fp ∧ ¬ OkW sz ws
  vf : valV kvs (.inr "frame") = some (.int n)
  vp : valV kvs (.inr "place") = some (.int j)
  vv : valV kvs (.inr "word") = some (.int v)
  vs : ∃ sl : Int, valV kvs (.inr "slot") = some (.int sl) ∧ ¬ Used S sl
  vz : ∃ (l : Addr) (s0 s1 s2 : Int), valV kvs (.inr "sizes") = some (.ref l) ∧ H l = some (.lst [.int s0, .int s1, .int s2]) ∧ ¬ ((1 ≤ s2 ∧ s2 ≤ 64) ∧ (1 ≤ s0 ∧ s0 ≤ 64) ∧ (0 ≤ s1 ∧ s1 ≤ 64))
  vl : ∃ x g, valV kvs (.inr "leaf") = some (.ref x) ∧ LfAt a H x g ∧ x ∉ fp ∧ ((∃ r n, g = .held r n ∧ ¬ Used R n) ∨ ∃ r n, g = .out r n ∧ ¬ Used S n)
section
variable {a : Adr} {H H' : Hp} {R S : Rooms} {sz : Int} {fp : List Addr} {da : Addr} {kvs : List (Key × V)} {n j v : Int}
theorem Dk.same (d : Dk a H R S sz fp da kvs n j v) (e : Same H H') : Dk a H' R S sz fp da kvs n j v := by
  obtain ⟨w, ws, a1, a2, a3⟩ := d.vw
  obtain ⟨l, s0, s1, s2, b1, b2, b3⟩ := d.vz
  obtain ⟨x, g, c1, c2, c3⟩ := d.vl
  exact ⟨e _ _ d.hd, d.len, ⟨w, ws, a1, e _ _ a2, a3⟩, d.vf, d.vp, d.vv, d.vs, ⟨l, s0, s1, s2, b1, e _ _ b2, b3⟩, ⟨x, g, c1, c2.same e, c3⟩⟩
theorem Dk.put (d : Dk a H R S sz fp da kvs n j v) (key : Str) (y n' j' v' : Int) (hk : key = Str.ofString "frame" ∧ n' = y ∧ j' = j ∧ v' = v ∨ key = Str.ofString "place" ∧ n' = n ∧ j' = y ∧ v' = v ∨ key = Str.ofString "word" ∧ n' = n ∧ j' = j ∧ v' = y) : Dk a (upd H da (.dK (putK kvs (.inr key) (.int y)))) R S sz fp da (putK kvs (.inr key) (.int y)) n' j' v' := by
  have nd : ∀ b zs, H b = some (.lst zs) → b ≠ da := fun b zs e z => by rw [z, d.hd] at e; cases e
  obtain ⟨w, ws, a1, a2, a3⟩ := d.vw
  obtain ⟨l, s0, s1, s2, b1, b2, b3⟩ := d.vz
  obtain ⟨x, g, c1, ⟨dx, c2⟩, c3⟩ := d.vl
  obtain ⟨sl, f1, f2⟩ := d.vs
  have nx : x ≠ da := fun z => by rw [z, d.hd] at c2; cases c2
  have ln : (putK kvs (.inr key) (.int y)).length ≤ 20 := by
    rcases hk with ⟨rfl, _⟩ | ⟨rfl, _⟩ | ⟨rfl, _⟩
    · rw [length_putK_in d.vf]; exact d.len
    · rw [length_putK_in d.vp]; exact d.len
    · rw [length_putK_in d.vv]; exact d.len
  have ne : ∀ k2 : Str, (k2 = Str.ofString "words" ∨ k2 = Str.ofString "slot" ∨ k2 = Str.ofString "sizes" ∨ k2 = Str.ofString "leaf") → valV (putK kvs (.inr key) (.int y)) (.inr k2) = valV kvs (.inr k2) := fun k2 h2 => by
    rw [valV_put, if_neg]
    rcases hk with ⟨rfl, _⟩ | ⟨rfl, _⟩ | ⟨rfl, _⟩ <;> rcases h2 with rfl | rfl | rfl | rfl <;> decide +kernel
  refine ⟨upd_same, ln, ⟨w, ws, by rw [ne _ (.inl rfl)]; exact a1, by rw [upd_ne (nd _ _ a2)]; exact a2, a3⟩, ?_, ?_, ?_, ⟨sl, by rw [ne _ (.inr (.inl rfl))]; exact f1, f2⟩, ⟨l, s0, s1, s2, by rw [ne _ (.inr (.inr (.inl rfl)))]; exact b1, by rw [upd_ne (nd _ _ b2)]; exact b2, b3⟩, ⟨x, g, by rw [ne _ (.inr (.inr (.inr rfl)))]; exact c1, ⟨dx, by rw [upd_ne nx]; exact c2⟩, c3⟩⟩
  · rcases hk with ⟨rfl, rfl, rfl, rfl⟩ | ⟨rfl, rfl, rfl, rfl⟩ | ⟨rfl, rfl, rfl, rfl⟩
    · rw [valV_put, if_pos rfl]
    · rw [valV_put, if_neg (by decide +kernel)]; exact d.vf
    · rw [valV_put, if_neg (by decide +kernel)]; exact d.vf
  · rcases hk with ⟨rfl, rfl, rfl, rfl⟩ | ⟨rfl, rfl, rfl, rfl⟩ | ⟨rfl, rfl, rfl, rfl⟩
    · rw [valV_put, if_neg (by decide +kernel)]; exact d.vp
    · rw [valV_put, if_pos rfl]
    · rw [valV_put, if_neg (by decide +kernel)]; exact d.vp
  · rcases hk with ⟨rfl, rfl, rfl, rfl⟩ | ⟨rfl, rfl, rfl, rfl⟩ | ⟨rfl, rfl, rfl, rfl⟩
    · rw [valV_put, if_neg (by decide +kernel)]; exact d.vv
    · rw [valV_put, if_neg (by decide +kernel)]; exact d.vv
    · rw [valV_put, if_pos rfl]
theorem Dk.leaf (d : Dk a H R S sz fp da kvs n j v) {x : Addr} {g : Lf} (lf : LfAt a H x g) (nx : x ∉ fp) (hx : x ≠ da) (hg : (∃ r n, g = .held r n ∧ ¬ Used R n) ∨ ∃ r n, g = .out r n ∧ ¬ Used S n) : Dk a (upd H da (.dK (putK kvs (.inr "leaf") (.ref x)))) R S sz fp da (putK kvs (.inr "leaf") (.ref x)) n j v := by
  have nd : ∀ b zs, H b = some (.lst zs) → b ≠ da := fun b zs e z => by rw [z, d.hd] at e; cases e
  obtain ⟨w, ws, a1, a2, a3⟩ := d.vw
  obtain ⟨l, s0, s1, s2, b1, b2, b3⟩ := d.vz
  obtain ⟨x0, g0, c1, c2, c3⟩ := d.vl
  obtain ⟨sl, f1, f2⟩ := d.vs
  obtain ⟨dx, hl⟩ := lf
  have ne : ∀ k2 : Str, ¬ ((Sum.inr k2 : Key) = Sum.inr (Str.ofString "leaf")) → valV (putK kvs (.inr "leaf") (.ref x)) (.inr k2) = valV kvs (.inr k2) := fun k2 h2 => by rw [valV_put, if_neg h2]
  exact ⟨upd_same, by rw [length_putK_in c1]; exact d.len, ⟨w, ws, by rw [ne _ (by decide +kernel)]; exact a1, by rw [upd_ne (nd _ _ a2)]; exact a2, a3⟩, by rw [ne _ (by decide +kernel)]; exact d.vf, by rw [ne _ (by decide +kernel)]; exact d.vp, by rw [ne _ (by decide +kernel)]; exact d.vv, ⟨sl, by rw [ne _ (by decide +kernel)]; exact f1, f2⟩, ⟨l, s0, s1, s2, by rw [ne _ (by decide +kernel)]; exact b1, by rw [upd_ne (nd _ _ b2)]; exact b2, b3⟩, ⟨x, g, by rw [valV_put, if_pos rfl], ⟨dx, by rw [upd_ne hx]; exact hl⟩, nx, hg⟩⟩
end
theorem disp3 {x y z : V} : (mergeK [] [(.inr "place", x), (.inr "word", y), (.inr "words", z)]).length ≤ 3 ∧ valV (mergeK [] [(.inr "place", x), (.inr "word", y), (.inr "words", z)]) (.inr "place") = some x ∧ valV (mergeK [] [(.inr "place", x), (.inr "word", y), (.inr "words", z)]) (.inr "word") = some y ∧ valV (mergeK [] [(.inr "place", x), (.inr "word", y), (.inr "words", z)]) (.inr "words") = some z := by
  refine ⟨length_mergeK _ _, ?_⟩
  rw [show mergeK [] [(.inr "place", x), (.inr "word", y), (.inr "words", z)] = putK (putK (putK [] (.inr "place") x) (.inr "word") y) (.inr "words") z from rfl]
  refine ⟨?_, ?_, ?_⟩
  · rw [valV_put, if_neg (by decide +kernel), valV_put, if_neg (by decide +kernel), valV_put, if_pos rfl]
  · rw [valV_put, if_neg (by decide +kernel), valV_put, if_pos rfl]
  · rw [valV_put, if_pos rfl]
theorem Arg.same {a : Adr} {H H' : Hp} {R S : Rooms} {sz : Int} {fp : List Addr} {kvs : List (Key × V)} {way i : Nat} (h : Arg a H R S sz fp kvs way i) (e : Same H H') : Arg a H' R S sz fp kvs way i := by
  rcases h with ⟨h0, w, ws, a1, a2, a3⟩ | h | h | h | ⟨h0, x, g, a1, a2, a3⟩ | ⟨h0, l, s0, s1, s2, a1, a2, a3⟩
  · exact .inl ⟨h0, w, ws, a1, e _ _ a2, a3⟩
  · exact .inr (.inl h)
  · exact .inr (.inr (.inl h))
  · exact .inr (.inr (.inr (.inl h)))
  · exact .inr (.inr (.inr (.inr (.inl ⟨h0, x, g, a1, a2.same e, a3⟩))))
  · exact .inr (.inr (.inr (.inr (.inr ⟨h0, l, s0, s1, s2, a1, e _ _ a2, a3⟩))))
def dueS (way : Nat) : List Str := if way = 0 then [nmE 0] else if way = 1 ∨ way = 2 then [] else if way = 8 then [nmE 3] else [nmE 1]
theorem Dk.arg {a : Adr} {H : Hp} {R S : Rooms} {sz : Int} {fp : List Addr} {da : Addr} {kvs : List (Key × V)} {n j v : Int} (d : Dk a H R S sz fp da kvs n j v) {way : Nat} (w9 : way < 9) (n1 : ¬ (way = 1 ∨ way = 2)) : ∃ i, i < 4 ∧ dueS way = [nmE i] ∧ Arg a H R S sz fp kvs way i := by
  have c : way = 0 ∨ way = 3 ∨ (way = 4 ∨ way = 5 ∨ way = 6 ∨ way = 7) ∨ way = 8 := by omega
  rcases c with c | c | c | c
  · obtain ⟨w, ws, a1, a2, a3, a4⟩ := d.vw
    exact ⟨0, by decide, by unfold dueS; rw [if_pos c], .inl ⟨c, w, ws, a1, a2, a3, a4, rfl⟩⟩
  · obtain ⟨sl, a1, a2⟩ := d.vs
    exact ⟨1, by decide, by unfold dueS; rw [if_neg (by omega), if_neg (by omega), if_neg (by omega)], .inr (.inr (.inr (.inl ⟨c, sl, a1, a2, rfl⟩)))⟩
  · obtain ⟨x, g, a1, a2, a3, a4⟩ := d.vl
    exact ⟨1, by decide, by unfold dueS; rw [if_neg (by omega), if_neg (by omega), if_neg (by omega)], .inr (.inr (.inr (.inr (.inl ⟨c, x, g, a1, a2, a3, a4, rfl⟩))))⟩
  · obtain ⟨l, s0, s1, s2, a1, a2, a3⟩ := d.vz
    exact ⟨3, by decide, by unfold dueS; rw [if_neg (by omega), if_neg (by omega), if_pos c], .inr (.inr (.inr (.inr (.inr ⟨c, l, s0, s1, s2, a1, a2, a3, rfl⟩))))⟩
def spArgs30 (a : Adr) : Sp := fun vs H Q _ => ∃ (p : Addr) (wi sz c : Int) (R S : Rooms) (bs : List Bool) (st : Nat) (fp : List Addr), vs = [.ref p, .int wi, .int sz, .int c] ∧ 0 ≤ wi ∧ wi < 9 ∧ PlAt a H p sz R S bs st fp ∧ (∃ n, Used R n) ∧
  ∀ T da dl kvs i H', H' T = some (.tup [.ref da, .ref dl]) → H' da = some (.dK kvs) → i < 4 → H' dl = some (.lst [.str (nmE i)]) → Arg a H' R S sz fp kvs wi.toNat i → Same H H' → Q (.ref T) H'
section
variable {P : Program} {w : World} {K : PySem.W.Frag} {mg : Str → Option Value} {base : Heap} {a : Adr}
theorem ok__law_arguments {dvs : List V} (R : RawF K mg "_law_arguments" s__law_arguments ["_law_pool", "_law_way", "_law_size", "_law_cell"] dvs) (T : Txt K mg a)
    (h_Pool_frames : HasMe P w K mg base a.c_Pool 3 "frames" ["self"] (spPFrames a) [])
    (h_Pool_slots : HasMe P w K mg base a.c_Pool 3 "slots" ["self"] (spPSlots a) [])
    (h__law_bad_words : HasFn P w K mg base 1 "_law_bad_words" ["_law_size", "_law_cell"] (spBad30) [])
    (h__law_none : HasFn P w K mg base 1 "_law_none" ["_law_counts", "_law_cell"] (spNone30) [])
    (h__law_sizes : HasFn P w K mg base 1 "_law_sizes" ["_law_cell"] (spSizes30) [])
    (h_Held___init__ : HasMk P w K mg base a.c_Held 3 ["self", "rights", "frame"] (spHeldInit a) [])
    (h_Out___init__ : HasMk P w K mg base a.c_Out 3 ["self", "rights", "slot"] (spOutInit a) []) :
    HasFn P w K mg base 5 "_law_arguments" ["_law_pool", "_law_way", "_law_size", "_law_cell"] (spArgs30 a) dvs := by
  refine R.ok sc__law_arguments (fun vs H Q E h => ?_) (fun f cdv A outer s H vs Q E hr h => ?_)
  · obtain ⟨p, wi, sz, c, Rr, Ss, bs, st, fp, rfl, _⟩ := h
    rfl
  obtain ⟨p, wi, sz, c, Rr, Ss, bs, st, fp, rfl, wi0, wi9, PL, used, k⟩ := h
  let R14 : {t : TS // PSs (cxOf (CXE P w) P w K mg base n__law_arguments "_law_arguments" (defScope s__law_arguments) f cdv A outer s H E) ((defBody s__law_arguments).drop 14) t} := ⟨_, (@pss_one _ _ _ (@ps_ret _ _ _ _ (@pe_tup _ _ _ _ _ (@pa_cn _ _ _ _ _ (pv 8) (@pa_cn _ _ _ _ _ (pv 9) pa_nil rfl) rfl))))⟩
  let R13 : {t : TS // PSs (cxOf (CXE P w) P w K mg base n__law_arguments "_law_arguments" (defScope s__law_arguments) f cdv A outer s H E) ((defBody s__law_arguments).drop 13) t} := ⟨_, (@pss_cons _ _ _ _ _ (ps_if (PW.pt (pw_and (pt_cmpR op_lt (pv 1) pe_int (nomark _)) (pw_and (pt_cmpR op_gt (pv 1) pe_int (nomark _)) (pw_and1 (pt_cmpR op_eq (pe_op op_mod (pe_op op_fdiv (pv 3) pe_int) pe_int) pe_int (nomark _)))))) (@pss_cons _ _ _ _ _ (@ps_dput _ _ _ _ _ _ _ _ _ hr.u1 (pv 8) pe_str (pe_fn h__law_none (hr.mono (by decide)) (by rfl) pass_def (@pa_cn _ _ _ _ _ (pv 4) (@pa_cn _ _ _ _ _ (pe_op op_fdiv (pv 3) pe_int) pa_nil rfl) rfl)) (by rfl))
      (@pss_one _ _ _ (@ps_set _ _ 9 _ _ _ _ sc__law_arguments.nd rfl (by first | exact Or.inl rfl | exact Or.inr rfl) (@pe_lst _ _ _ _ (@pa_cn _ _ _ _ _ pe_str pa_nil rfl)) (by rfl) (by first | exact Or.inl rfl | exact Or.inr rfl)))) pss_nil)
      R14.2)⟩
  let R12 : {t : TS // PSs (cxOf (CXE P w) P w K mg base n__law_arguments "_law_arguments" (defScope s__law_arguments) f cdv A outer s H E) ((defBody s__law_arguments).drop 12) t} := ⟨_, (@pss_cons _ _ _ _ _ (ps_if (PW.pt (pw_and (pt_cmpR op_lt (pv 1) pe_int (nomark _)) (pw_and (pt_cmpR op_gt (pv 1) pe_int (nomark _)) (pw_and1 (PW.pt (pw_or (pt_cmpR op_gt (pe_op op_mod (pe_op op_fdiv (pv 3) pe_int) pe_int) pe_int (nomark _)) (pw_or1 (pt_cmpR (op_eqNil hr.units) (pv 9) (@pe_lst _ _ _ _ pa_nil) (nomark _))))))))) (@pss_cons _ _ _ _ _ (@ps_dput _ _ _ _ _ _ _ _ _ hr.u1 (pv 8) pe_str (@pe_ix _ _ _ _ _ _ _ ix_list (@pe_lst _ _ _ _ (@pa_cn _ _ _ _ _ (pe_op op_sub (pe_un un_neg pe_int) (pv 6)) (@pa_cn _ _ _ _ _ (pe_op op_add (pv 2) (pv 6)) pa_nil rfl) rfl)) (pe_op op_mod (pe_op op_fdiv (pv 3) pe_int) pe_int) (fun _ _ => rfl)) (by rfl))
      (@pss_one _ _ _ (@ps_set _ _ 9 _ _ _ _ sc__law_arguments.nd rfl (by first | exact Or.inl rfl | exact Or.inr rfl) (@pe_lst _ _ _ _ (@pa_cn _ _ _ _ _ pe_str pa_nil rfl)) (by rfl) (by first | exact Or.inl rfl | exact Or.inr rfl)))) pss_nil)
      R13.2)⟩
  let R11 : {t : TS // PSs (cxOf (CXE P w) P w K mg base n__law_arguments "_law_arguments" (defScope s__law_arguments) f cdv A outer s H E) ((defBody s__law_arguments).drop 11) t} := ⟨_, (@pss_cons _ _ _ _ _ (ps_if (PW.pt (pw_and (pt_cmpR op_eq (pv 1) pe_int (nomark _)) (pw_and1 (pt_cmpR op_gt (pe_op op_mod (pv 3) pe_int) pe_int (nomark _))))) (@pss_cons _ _ _ _ _ (@ps_dput _ _ _ _ _ _ _ _ _ hr.u1 (pv 8) pe_str (@pe_ix _ _ _ _ _ _ _ ix_list (@pe_lst _ _ _ _ (@pa_cn _ _ _ _ _ (pe_op op_sub (pe_un un_neg pe_int) (pv 6)) (@pa_cn _ _ _ _ _ (pe_op op_add (pe_op op_pow pe_int pe_int) (pv 6)) pa_nil rfl) rfl)) (pe_op op_mod (pv 3) pe_int) (fun _ _ => rfl)) (by rfl))
      (@pss_one _ _ _ (@ps_set _ _ 9 _ _ _ _ sc__law_arguments.nd rfl (by first | exact Or.inl rfl | exact Or.inr rfl) (@pe_lst _ _ _ _ (@pa_cn _ _ _ _ _ pe_str pa_nil rfl)) (by rfl) (by first | exact Or.inl rfl | exact Or.inr rfl)))) pss_nil)
      R12.2)⟩
  refine ⟨_, (@pss_cons _ _ _ _ _ (@ps_set _ _ 4 _ _ _ _ sc__law_arguments.nd rfl (by first | exact Or.inl rfl | exact Or.inr rfl) (pe_me0 (pv 0) T.cl_Pool h_Pool_frames (hr.mono (by decide)) pass_def) (by rfl) (by first | exact Or.inl rfl | exact Or.inr rfl))
      (@pss_cons _ _ _ _ _ (@ps_set _ _ 5 _ _ _ _ sc__law_arguments.nd rfl (by first | exact Or.inl rfl | exact Or.inr rfl) (pe_me0 (pv 0) T.cl_Pool h_Pool_slots (hr.mono (by decide)) pass_def) (by rfl) (by first | exact Or.inl rfl | exact Or.inr rfl))
      (@pss_cons _ _ _ _ _ (@ps_set _ _ 6 _ _ _ _ sc__law_arguments.nd rfl (by first | exact Or.inl rfl | exact Or.inr rfl) (pe_op op_mod (pe_op op_fdiv (pv 3) pe_int) (pe_op op_pow pe_int pe_int)) (by rfl) (by first | exact Or.inl rfl | exact Or.inr rfl))
      (@pss_cons _ _ _ _ _ (ps_setC (j := 7) sc__law_arguments.nd rfl rfl (xs := ["_law_k"]) (N' := ["_law_pool", "_law_way", "_law_size", "_law_cell", "_law_frames", "_law_slots", "_law_far", "_law_used", "_law_a", "_law_due"]) rfl ⟨rfl, by decide +kernel, by decide +kernel, by dsimp only [cxOf, PyProof.Rows.envOfC]; decide +kernel, by decide +kernel, by dsimp only [cxOf]; decide +kernel, rfl⟩ (pi_range1 (by rfl) T.b_range (@pa_cn _ _ _ _ _ (pe_callB call_len_seq (by rfl) T.b_len PySem.boot_len (@pa_cn _ _ _ _ _ (pv 4) pa_nil rfl)) pa_nil rfl)) (fun _ _ _ _ _ => (pg_name (i := 0) (by dsimp only [cxComp]; decide +kernel) rfl (by first | exact Or.inl rfl | exact Or.inr rfl))) (fun _ _ _ _ _ => (pts_one (pt_cmpR op_gt (pe_ix (ix_listK (K := K) rfl) (pv 5) (pv 0) (fun _ _ => rfl)) pe_int (nomark _)))) (fun _ _ _ _ _ => (pv 0)))
      (@pss_cons _ _ _ _ _ (@ps_set _ _ 8 _ _ _ _ sc__law_arguments.nd rfl (by first | exact Or.inl rfl | exact Or.inr rfl) (pe_disp (pps_cons pe_str (pe_op op_mod (pe_op op_fdiv (pv 3) pe_int) (pv 2)) (pps_cons pe_str (pe_op op_mod (pv 3) (pe_op op_pow pe_int pe_int)) (pps_cons pe_str (pe_fn h__law_bad_words (hr.mono (by decide)) (by rfl) pass_def (@pa_cn _ _ _ _ _ (pv 2) (@pa_cn _ _ _ _ _ (pv 3) pa_nil rfl) rfl)) pps_nil))) rfl rfl (by intro h; cases h) (by decide)) (by rfl) (by first | exact Or.inl rfl | exact Or.inr rfl))
      (@pss_cons _ _ _ _ _ (@ps_dput _ _ _ _ _ _ _ _ _ hr.u1 (pv 8) pe_str (@pe_ix _ _ _ _ _ _ _ ix_list (pv 7) (pe_op op_mod (pe_op op_fdiv (pv 3) pe_int) (pe_callB call_len_seq (by rfl) T.b_len PySem.boot_len (@pa_cn _ _ _ _ _ (pv 7) pa_nil rfl))) (fun _ _ => rfl)) (by rfl))
      (@pss_cons _ _ _ _ _ (@ps_dput _ _ _ _ _ _ _ _ _ hr.u1 (pv 8) pe_str (pe_fn h__law_none (hr.mono (by decide)) (by rfl) pass_def (@pa_cn _ _ _ _ _ (pv 5) (@pa_cn _ _ _ _ _ (pe_op op_fdiv (pv 3) pe_int) pa_nil rfl) rfl)) (by rfl))
      (@pss_cons _ _ _ _ _ (@ps_dput _ _ _ _ _ _ _ _ _ hr.u1 (pv 8) pe_str (pe_fn h__law_sizes (hr.mono (by decide)) (by rfl) pass_def (@pa_cn _ _ _ _ _ (pv 3) pa_nil rfl)) (by rfl))
      (@pss_cons _ _ _ _ _ (@ps_dput _ _ _ _ _ _ _ _ _ hr.u1 (pv 8) pe_str (pe_mk h_Held___init__ (hr.mono (by decide)) (by rfl) T.m_Held pass_def (@pa_cn _ _ _ _ _ (pe_op op_mod (pv 3) pe_int) (@pa_cn _ _ _ _ _ (pe_fn h__law_none (hr.mono (by decide)) (by rfl) pass_def (@pa_cn _ _ _ _ _ (pv 4) (@pa_cn _ _ _ _ _ (pe_op op_fdiv (pv 3) pe_int) pa_nil rfl) rfl)) pa_nil rfl) rfl)) (by rfl))
      (@pss_cons _ _ _ _ _ (ps_if (pt_cmpR op_eq (pe_op op_mod (pe_op op_fdiv (pv 3) pe_int) pe_int) pe_int (nomark _)) (@pss_one _ _ _ (@ps_dput _ _ _ _ _ _ _ _ _ hr.u1 (pv 8) pe_str (pe_mk h_Out___init__ (hr.mono (by decide)) (by rfl) T.m_Out pass_def (@pa_cn _ _ _ _ _ (pe_op op_mod (pv 3) pe_int) (@pa_cn _ _ _ _ _ (pe_fn h__law_none (hr.mono (by decide)) (by rfl) pass_def (@pa_cn _ _ _ _ _ (pv 5) (@pa_cn _ _ _ _ _ (pe_op op_fdiv (pv 3) pe_int) pa_nil rfl) rfl)) pa_nil rfl) rfl)) (by rfl))) pss_nil)
      (@pss_cons _ _ _ _ _ (@ps_set _ _ 9 _ _ _ _ sc__law_arguments.nd rfl (by first | exact Or.inl rfl | exact Or.inr rfl) (@pe_ix _ _ _ _ _ _ _ ix_list (@pe_lst _ _ _ _ (@pa_cn _ _ _ _ _ (@pe_lst _ _ _ _ (@pa_cn _ _ _ _ _ pe_str pa_nil rfl)) (@pa_cn _ _ _ _ _ (@pe_lst _ _ _ _ pa_nil) (@pa_cn _ _ _ _ _ (@pe_lst _ _ _ _ pa_nil) (@pa_cn _ _ _ _ _ (@pe_lst _ _ _ _ (@pa_cn _ _ _ _ _ pe_str pa_nil rfl)) (@pa_cn _ _ _ _ _ (@pe_lst _ _ _ _ (@pa_cn _ _ _ _ _ pe_str pa_nil rfl)) (@pa_cn _ _ _ _ _ (@pe_lst _ _ _ _ (@pa_cn _ _ _ _ _ pe_str pa_nil rfl)) (@pa_cn _ _ _ _ _ (@pe_lst _ _ _ _ (@pa_cn _ _ _ _ _ pe_str pa_nil rfl)) (@pa_cn _ _ _ _ _ (@pe_lst _ _ _ _ (@pa_cn _ _ _ _ _ pe_str pa_nil rfl)) (@pa_cn _ _ _ _ _ (@pe_lst _ _ _ _ (@pa_cn _ _ _ _ _ pe_str pa_nil rfl)) pa_nil rfl) rfl) rfl) rfl) rfl) rfl) rfl) rfl) rfl)) (pv 1) (fun _ _ => rfl)) (by rfl) (by first | exact Or.inl rfl | exact Or.inr rfl))
      R11.2))))))))))), ?_⟩
  obtain ⟨way, rfl⟩ : ∃ way : Nat, wi = (way : Int) := ⟨wi.toNat, by omega⟩
  rw [Int.toNat_natCast] at k
  have w9 : way < 9 := by omega
  obtain ⟨dx, f1', g, h, f2', f3', f4', P', _⟩ := id PL
  have hp := P'.ob
  have t1 := T.cl_Pool
  have r64 : Rr.length ≤ 64 := P'.s1.r64
  have s64 : Ss.length ≤ 64 := P'.s2.r64
  obtain ⟨sz1, sz64⟩ := P'.s1.sz
  have nn1 := P'.w1.nn
  have cp : CPow 10 30 := ⟨by decide, by decide, by decide⟩
  have p30 : (0 : Int) < (10 : Int) ^ (30 : Int).toNat := by decide
  have f0 := Int.emod_nonneg (c / 8) (show (10 : Int) ^ (30 : Int).toNat ≠ 0 by decide)
  have cr64 : Rr.cs.length ≤ 64 := by rw [List.length_map]; exact r64
  have t14 : ∀ (f' sl' u' da dl : Addr) (far : Int) (H' : Hp) (kvs : List (Key × V)) (i : Nat), i < 4 → H' da = some (.dK kvs) → H' dl = some (.lst [.str (nmE i)]) → Arg a H' Rr Ss sz fp kvs way i → Same H H' → R14.1 { nx := fun _ H' => Q .non H', rt := Q } [some (.ref p), some (.int way), some (.int sz), some (.int c), some (.ref f'), some (.ref sl'), some (.int far), some (.ref u'), some (.ref da), some (.ref dl)] H' := by
    intro f' sl' u' da dl far H' kvs i i4 hd hl ag sm
    walk_at "go"
    intro T hT
    exact k T da dl kvs i _ upd_same (by rw [upd_ne (ne_of_none hd hT)]; exact hd) i4 (by rw [upd_ne (ne_of_none hl hT)]; exact hl) (ag.same (same_upd hT)) (sm.trans (same_upd hT))
  have t13 : ∀ (f' sl' u' da dl : Addr) (far : Int) (H' : Hp) (kvs : List (Key × V)) (n j v : Int) (i : Nat), Dk a H' Rr Ss sz fp da kvs n j v → H' f' = some (.lst (Rr.cs.map V.int)) → i < 4 → H' dl = some (.lst [.str (nmE i)]) → Arg a H' Rr Ss sz fp kvs way i → Same H H' → (∀ b u, H b = some u → b ≠ da) → R13.1 { nx := fun _ H' => Q .non H', rt := Q } [some (.ref p), some (.int way), some (.int sz), some (.int c), some (.ref f'), some (.ref sl'), some (.int far), some (.ref u'), some (.ref da), some (.ref dl)] H' := by
    intro f' sl' u' da dl far H' kvs n j v i D hf i4 hl ag sm nd
    have hd := D.hd
    have kl := D.len
    have thru := t14 f' sl' u' da dl far H' kvs i i4 hd hl ag sm
    walk_at "go"
    refine iteD (fun z1 => ?_) (fun z1 => ?_)
    · walk_at "go"
      refine iteD (fun z2 => ?_) (fun z2 => ?_)
      · walk_at "go"
        refine iteI (fun z3 => ?_) (fun z3 => ?_)
        · walk_at "go"
          intro fn nfn
          have nfn' : ¬ Used Rr fn := fun w => nfn ⟨w.1.1, by have := w.1.2; exact this, w.2⟩
          have dp : DPut H' da (.str "frame") (.int fn) (upd H' da (.dK (putK kvs (.inr "frame") (.int fn)))) := DPut.k (k := .inr "frame") hd (by rw [sizeLine_eq]; omega)
          have D2 := D.put "frame" fn fn j v (.inl ⟨rfl, rfl, rfl, rfl⟩)
          have s2 : Same H (upd H' da (.dK (putK kvs (.inr "frame") (.int fn)))) := fun b u e => by rw [upd_ne (nd b u e)]; exact sm _ _ e
          walk_at "go"
          intro q hq
          have A2 : Arg a (upd H' da (.dK (putK kvs (.inr "frame") (.int fn)))) Rr Ss sz fp (putK kvs (.inr "frame") (.int fn)) way 1 := by
            have : way = 1 ∨ way = 2 := by omega
            rcases this with w | w
            · exact .inr (.inl ⟨w, fn, j, D2.vf, D2.vp, .inl ⟨nfn', rfl⟩⟩)
            · exact .inr (.inr (.inl ⟨w, fn, j, v, D2.vf, D2.vp, D2.vv, .inl ⟨nfn', rfl⟩⟩))
          exact t14 _ _ _ _ _ _ _ _ 1 (by decide) (same_upd hq _ _ D2.hd) upd_same (A2.same (same_upd hq)) (s2.trans (same_upd hq))
        · exact thru
      · exact thru
    · exact thru
  have t12 : ∀ (f' sl' u' da dl : Addr) (far : Int) (H' : Hp) (kvs : List (Key × V)) (n j v : Int) (ds : List Str), Dk a H' Rr Ss sz fp da kvs n j v → H' f' = some (.lst (Rr.cs.map V.int)) → Used Rr n → 0 ≤ j ∧ j < sz → 0 ≤ far → H' dl = some (.lst (ds.map V.str)) → ((way = 1 ∨ way = 2) → (ds = [] ∨ way = 2 ∧ ds = [nmE 0] ∧ ¬ IsWord v)) → (¬ (way = 1 ∨ way = 2) → ds = dueS way) → Same H H' → (∀ b u, H b = some u → b ≠ da) → f' ≠ da → dl ≠ da → R12.1 { nx := fun _ H' => Q .non H', rt := Q } [some (.ref p), some (.int way), some (.int sz), some (.int c), some (.ref f'), some (.ref sl'), some (.int far), some (.ref u'), some (.ref da), some (.ref dl)] H' := by
    intro f' sl' u' da dl far H' kvs n j v ds D hf un jg far0 hl d1 d2 sm nd nf nl
    have hd := D.hd
    have kl := D.len
    have thru : ¬ (way = 1 ∨ way = 2) → R13.1 { nx := fun _ H' => Q .non H', rt := Q } [some (.ref p), some (.int way), some (.int sz), some (.int c), some (.ref f'), some (.ref sl'), some (.int far), some (.ref u'), some (.ref da), some (.ref dl)] H' := fun nw => by
      obtain ⟨i, i4, e, ag⟩ := D.arg w9 nw
      exact t13 _ _ _ _ _ _ _ _ n j v i D hf i4 (by rw [hl, d2 nw, e]; rfl) ag sm nd
    have bad : (way = 1 ∨ way = 2) → ∀ H2 : Hp, Same H' H2 → ∀ (y : Int), ¬ (0 ≤ y ∧ y < sz) → ∀ q, upd H2 da (.dK (putK kvs (.inr "place") (.int y))) q = none → R13.1 { nx := fun _ H' => Q .non H', rt := Q } [some (.ref p), some (.int way), some (.int sz), some (.int c), some (.ref f'), some (.ref sl'), some (.int far), some (.ref u'), some (.ref da), some (.ref q)] (upd (upd H2 da (.dK (putK kvs (.inr "place") (.int y)))) q (.lst [.str "address"])) := fun ww H2 s2 y yb q hq => by
      have D2 := (D.same s2).put "place" y n y v (.inr (.inl ⟨rfl, rfl, rfl, rfl⟩))
      have s3 : Same H (upd H2 da (.dK (putK kvs (.inr "place") (.int y)))) := fun b u e => by rw [upd_ne (nd b u e)]; exact s2 _ _ (sm _ _ e)
      have A2 : Arg a (upd H2 da (.dK (putK kvs (.inr "place") (.int y)))) Rr Ss sz fp (putK kvs (.inr "place") (.int y)) way 2 := by
        rcases ww with w | w
        · exact .inr (.inl ⟨w, n, y, D2.vf, D2.vp, .inr ⟨un, yb, rfl⟩⟩)
        · exact .inr (.inr (.inl ⟨w, n, y, v, D2.vf, D2.vp, D2.vv, .inr (.inl ⟨un, yb, rfl⟩)⟩))
      exact t13 _ _ _ _ _ _ _ _ n y v 2 (D2.same (same_upd hq)) (same_upd hq _ _ (by rw [upd_ne nf]; exact s2 _ _ hf)) (by decide) upd_same (A2.same (same_upd hq)) (s3.trans (same_upd hq)) nd
    walk_at "go"
    refine iteD (fun z1 => ?_) (fun z1 => ?_)
    · walk_at "go"
      refine iteD (fun z2 => ?_) (fun z2 => ?_)
      · have ww : way = 1 ∨ way = 2 := by omega
        walk_at "go"
        refine iteD (fun z3 => ?_) (fun z3 => ?_)
        · walk_at "go"
          intro l2 hl2
          generalize hh : upd _ l2 _ = H20
          obtain ⟨s20, e20⟩ := newO hl2 hh
          clear hh
          obtain ⟨y, ey, yb⟩ : ∃ y : Int, atI [V.int (-1 - far), V.int (sz + far)] (c / 9 % 2) = some (.int y) ∧ ¬ (0 ≤ y ∧ y < sz) := by
            have : c / 9 % 2 = 0 ∨ c / 9 % 2 = 1 := by omega
            rcases this with e | e
            · exact ⟨-1 - far, by rw [e]; rfl, by omega⟩
            · exact ⟨sz + far, by rw [e]; rfl, by omega⟩
          have hd20 := s20 _ _ hd
          have dp : DPut H20 da (.str "place") (.int y) (upd H20 da (.dK (putK kvs (.inr "place") (.int y)))) := DPut.k (k := .inr "place") hd20 (by rw [sizeLine_eq]; omega)
          walk_at "go"
          intro q hq
          exact bad ww H20 (s20) y yb q hq
        · walk_at "go"
          intro l1 hl1
          generalize hh : upd _ l1 _ = H19
          obtain ⟨s19, e19⟩ := newO hl1 hh
          clear hh
          have hl19 := s19 _ _ hl
          have hd19 := s19 _ _ hd
          rcases d1 ww with rfl | ⟨w2, rfl, bw⟩
          · walk_at "go"
            intro l2 hl2
            generalize hh : upd _ l2 _ = H20
            obtain ⟨s20, e20⟩ := newO hl2 hh
            clear hh
            obtain ⟨y, ey, yb⟩ : ∃ y : Int, atI [V.int (-1 - far), V.int (sz + far)] (c / 9 % 2) = some (.int y) ∧ ¬ (0 ≤ y ∧ y < sz) := by
              have : c / 9 % 2 = 0 ∨ c / 9 % 2 = 1 := by omega
              rcases this with e | e
              · exact ⟨-1 - far, by rw [e]; rfl, by omega⟩
              · exact ⟨sz + far, by rw [e]; rfl, by omega⟩
            have hd20 := s20 _ _ hd19
            have dp : DPut H20 da (.str "place") (.int y) (upd H20 da (.dK (putK kvs (.inr "place") (.int y)))) := DPut.k (k := .inr "place") hd20 (by rw [sizeLine_eq]; omega)
            walk_at "go"
            intro q hq
            exact bad ww H20 (s19.trans s20) y yb q hq
          · have fin := t13 f' sl' u' da dl far H19 kvs n j v 0 (D.same s19) (s19 _ _ hf) (by decide) hl19 (.inr (.inr (.inl ⟨w2, n, j, v, D.vf, D.vp, D.vv, .inr (.inr ⟨un, jg, bw, rfl⟩)⟩))) (sm.trans s19) nd
            repeat (first | exact fin | (apply And.intro; (walk_at "cl")) | walk_at "ex")
      · exact thru (by omega)
    · exact thru (by omega)
  have t11 : ∀ (f' sl' u' da dl : Addr) (far : Int) (H' : Hp) (kvs : List (Key × V)) (n j v : Int), Dk a H' Rr Ss sz fp da kvs n j v → H' f' = some (.lst (Rr.cs.map V.int)) → Used Rr n → 0 ≤ j ∧ j < sz → 0 ≤ far → H' dl = some (.lst ((dueS way).map V.str)) → Same H H' → (∀ b u, H b = some u → b ≠ da) → f' ≠ da → R11.1 { nx := fun _ H' => Q .non H', rt := Q } [some (.ref p), some (.int way), some (.int sz), some (.int c), some (.ref f'), some (.ref sl'), some (.int far), some (.ref u'), some (.ref da), some (.ref dl)] H' := by
    intro f' sl' u' da dl far H' kvs n j v D hf un jg far0 hl sm nd nf
    have hd := D.hd
    have kl := D.len
    have nl : dl ≠ da := fun z => by rw [z, hd] at hl; cases hl
    have cp2 : CPow 2 64 := ⟨by decide, by decide, by decide⟩
    have due0 : (way = 1 ∨ way = 2) → dueS way = [] := fun h => by unfold dueS; rw [if_neg (by omega), if_pos h]
    have thru := t12 f' sl' u' da dl far H' kvs n j v (dueS way) D hf un jg far0 hl (fun h => .inl (due0 h)) (fun _ => rfl) sm nd nf nl
    walk_at "go"
    refine iteI (fun z1 => ?_) (fun z1 => ?_)
    · walk_at "go"
      refine iteD (fun z2 => ?_) (fun z2 => ?_)
      · walk_at "go"
        intro l2 hl2
        generalize hh : upd _ l2 _ = H20
        obtain ⟨s20, e20⟩ := newO hl2 hh
        clear hh
        obtain ⟨y, ey, yb⟩ : ∃ y : Int, atI [V.int (-1 - far), V.int (2 ^ (64 : Int).toNat + far)] (c % 2) = some (.int y) ∧ ¬ IsWord y := by
          have : c % 2 = 0 ∨ c % 2 = 1 := by omega
          rcases this with e | e
          · exact ⟨-1 - far, by rw [e]; rfl, fun w => by have := w.1; omega⟩
          · exact ⟨2 ^ (64 : Int).toNat + far, by rw [e]; rfl, bad_up far0⟩
        have hd20 := s20 _ _ hd
        have dp : DPut H20 da (.str "word") (.int y) (upd H20 da (.dK (putK kvs (.inr "word") (.int y)))) := DPut.k (k := .inr "word") hd20 (by rw [sizeLine_eq]; omega)
        have D2 := (D.same s20).put "word" y n j y (.inr (.inr ⟨rfl, rfl, rfl, rfl⟩))
        have s3 : Same H (upd H20 da (.dK (putK kvs (.inr "word") (.int y)))) := fun b u e => by rw [upd_ne (nd b u e)]; exact s20 _ _ (sm _ _ e)
        walk_at "go"
        intro q hq
        refine t12 _ _ _ _ _ _ _ _ n j y [nmE 0] (D2.same (same_upd hq)) (same_upd hq _ _ (by rw [upd_ne nf]; exact s20 _ _ hf)) un jg far0 upd_same (fun _ => .inr ⟨by omega, rfl, yb⟩) (fun h => absurd (.inr (by omega)) h) (s3.trans (same_upd hq)) nd nf fun z => ?_
        rw [z, upd_same] at hq; cases hq
      · exact thru
    · exact thru
  walk_at "go"
  intro f hf
  have s1 : Same H (upd H f (.lst (Rr.cs.map V.int))) := same_upd hf
  have e1 : upd H f (.lst (Rr.cs.map V.int)) f = some (.lst (Rr.cs.map V.int)) := upd_same
  generalize upd H f (.lst (Rr.cs.map V.int)) = H1 at s1 e1
  have hp1 := s1 _ _ hp
  have PL1 := PL.same s1
  walk_at "go"
  intro sl hsl
  have s2 : Same H1 (upd H1 sl (.lst (Ss.cs.map V.int))) := same_upd hsl
  have e2 : upd H1 sl (.lst (Ss.cs.map V.int)) sl = some (.lst (Ss.cs.map V.int)) := upd_same
  generalize upd H1 sl (.lst (Ss.cs.map V.int)) = H2 at s2 e2
  have e12 := s2 _ _ e1
  have lR : (Rr.cs.map V.int).length = Rr.length := by rw [List.length_map, List.length_map]
  walk_at "go"
  intro u hu
  have ac : ∀ i : Nat, i < Rr.length → atI (Rr.cs.map V.int) (0 + (i : Int)) = some (.int (Rr.cs.getD i 0)) := fun i hi => by
    rw [Int.zero_add]
    exact atI_nat (by rw [List.getElem?_map, List.getD_eq_getElem?_getD, List.getElem?_eq_getElem (by rw [List.length_map]; exact hi)]; rfl)
  refine comp_range hu (fun i => .int (0 + (i : Int))) (fun i => decide (0 < Rr.cs.getD i 0)) (by rw [sizeLine_eq]; omega) (fun i ys hi R r => ?_) (fun i ys hi _ R r => ?_) ?_
  · have a1 := ac i (by omega)
    have e12' : upd H2 u (.lst ys) f = some (.lst (Rr.cs.map V.int)) := by rw [upd_ne (ne_of_none e12 hu)]; exact e12
    walk_at "go"
    exact r
  · walk_at "go"
    exact r
  · have ul : ∃ us : List Nat, ((List.range Rr.length).filter fun i => decide (0 < Rr.cs.getD i 0)) = us ∧ us ≠ [] ∧ us.length ≤ 64 ∧ ∀ i ∈ us, Used Rr (i : Int) := by
      refine ⟨_, rfl, ?_, ?_, fun i hi => ?_⟩
      · obtain ⟨n, un⟩ := used
        obtain ⟨hR, hc⟩ := used_at un
        have hn := (List.getElem?_eq_some_iff.mp hR).1
        have cn : 0 < Rr.cs.getD n.toNat 0 := by
          have e : Rr.cs.getD n.toNat 0 = cntOf Rr n := rfl
          have := nn1 (cntOf Rr n) (List.mem_map.mpr ⟨_, List.mem_of_getElem? hR, rfl⟩)
          omega
        exact List.ne_nil_of_mem (List.mem_filter.mpr ⟨List.mem_range.mpr hn, decide_eq_true cn⟩)
      · exact Nat.le_trans (List.length_filter_le ..) (by rw [List.length_range]; exact r64)
      · obtain ⟨h1, h2⟩ := List.mem_filter.mp hi
        have h1 := List.mem_range.mp h1
        have h2 := of_decide_eq_true h2
        exact ⟨⟨by omega, by rw [List.length_map]; omega⟩, by rw [Int.toNat_natCast]; omega⟩
    obtain ⟨us, eus, une, u64, uu⟩ := ul
    rw [lR, Int.toNat_natCast, eus]
    have s3 : Same H2 (upd H2 u (.lst (us.map fun i : Nat => V.int (0 + (i : Int))))) := same_upd hu
    have e3 : upd H2 u (.lst (us.map fun i : Nat => V.int (0 + (i : Int)))) u = some (.lst (us.map fun i : Nat => V.int (0 + (i : Int)))) := upd_same
    generalize upd H2 u (.lst (us.map fun i : Nat => V.int (0 + (i : Int)))) = H3 at s3 e3
    have cp2 : CPow 2 64 := ⟨by decide, by decide, by decide⟩
    have p64 : (0 : Int) < (2 : Int) ^ (64 : Int).toNat := by decide
    walk_at "go"
    dsimp only
    generalize c / 8 % (10 : Int) ^ (30 : Int).toNat = far at f0
    intro da hda
    have s4 : Same H3 (upd H3 da (.dK [])) := same_upd hda
    have e4 : upd H3 da (.dK []) da = some (.dK []) := upd_same
    generalize upd H3 da (.dK []) = H4 at s4 e4
    walk_at "go"
    unfold tPairs
    walk_at "go"
    intro wq ws H5 hwq ew s5 badw
    walk_at "go"
    refine ⟨s5 _ _ e4, [(.inr "place", .int (c / 8 % sz)), (.inr "word", .int (c % (2 : Int) ^ (64 : Int).toNat)), (.inr "words", .ref wq)], rfl, by show 3 ≤ 15; decide, ?_⟩
    obtain ⟨k3, v1, v2, v3⟩ := disp3 (x := .int (c / 8 % sz)) (y := .int (c % (2 : Int) ^ (64 : Int).toNat)) (z := .ref wq)
    generalize mergeK [] [(.inr "place", .int (c / 8 % sz)), (.inr "word", .int (c % (2 : Int) ^ (64 : Int).toNat)), (.inr "words", .ref wq)] = kvs0 at k3 v1 v2 v3
    have kp6 : ∀ b u, H5 b = some u → b ≠ da → upd H5 da (.dK kvs0) b = some u := fun b u e n => by rw [upd_ne n]; exact e
    have d6 : upd H5 da (.dK kvs0) da = some (.dK kvs0) := upd_same
    generalize upd H5 da (.dK kvs0) = H6 at kp6 d6
    have s35 := s4.trans s5
    have e36 := kp6 _ _ (s35 _ _ e3) (ne_of_none e3 hda)
    have lU : (us.map fun i : Nat => V.int (0 + (i : Int))).length = us.length := List.length_map ..
    have lup : 0 < us.length := List.length_pos_iff.mpr une
    have i0 := Int.emod_nonneg (c / 243) (show ((us.map fun i : Nat => V.int (0 + (i : Int))).length : Int) ≠ 0 by omega)
    have i1 := Int.emod_lt_of_pos (c / 243) (show 0 < ((us.map fun i : Nat => V.int (0 + (i : Int))).length : Int) by omega)
    obtain ⟨n, an, un⟩ : ∃ n : Int, atI (us.map fun i : Nat => V.int (0 + (i : Int))) (c / 243 % ((us.map fun i : Nat => V.int (0 + (i : Int))).length : Int)) = some (.int n) ∧ Used Rr n := by
      obtain ⟨m, em⟩ : ∃ m : Nat, c / 243 % ((us.map fun i : Nat => V.int (0 + (i : Int))).length : Int) = (m : Int) := ⟨_, (Int.toNat_of_nonneg i0).symm⟩
      have ml : m < us.length := by omega
      refine ⟨0 + (us[m] : Int), ?_, ?_⟩
      · rw [em]; exact atI_nat (by rw [List.getElem?_map, List.getElem?_eq_getElem ml]; rfl)
      · rw [Int.zero_add]; exact uu _ (List.getElem_mem ml)
    have dp7 : DPut H6 da (.str "frame") (.int n) (upd H6 da (.dK (putK kvs0 (.inr "frame") (.int n)))) := DPut.k (k := .inr "frame") d6 (by rw [sizeLine_eq]; omega)
    have kp7 : ∀ b u, H6 b = some u → b ≠ da → upd H6 da (.dK (putK kvs0 (.inr "frame") (.int n))) b = some u := fun b u e n => by rw [upd_ne n]; exact e
    have d7 : upd H6 da (.dK (putK kvs0 (.inr "frame") (.int n))) da = some (.dK (putK kvs0 (.inr "frame") (.int n))) := upd_same
    have k7 : (putK kvs0 (.inr "frame") (.int n)).length ≤ kvs0.length + 1 := length_putK ..
    have e57 : upd H6 da (.dK (putK kvs0 (.inr "frame") (.int n))) sl = some (.lst (Ss.cs.map V.int)) := kp7 _ _ (kp6 _ _ (s35 _ _ (s3 _ _ e2)) (ne_of_none (s3 _ _ e2) hda)) (ne_of_none (s3 _ _ e2) hda)
    have cs64 : Ss.cs.length ≤ 64 := by rw [List.length_map]; exact s64
    have cr64 : Rr.cs.length ≤ 64 := by rw [List.length_map]; exact r64
    have c243 : CDiv c 243 := ⟨by decide, by decide⟩
    walk_at "go"
    intro sn nsn
    have nsn' : ¬ Used Ss sn := fun w => nsn ⟨w.1.1, by have := w.1.2; exact this, w.2⟩
    generalize upd H6 da (.dK (putK kvs0 (.inr "frame") (.int n))) = H7 at kp7 d7 e57
    generalize hk1 : putK kvs0 (.inr "frame") (.int n) = kvs1 at d7 k7
    have dp8 : DPut H7 da (.str "slot") (.int sn) (upd H7 da (.dK (putK kvs1 (.inr "slot") (.int sn)))) := DPut.k (k := .inr "slot") d7 (by rw [sizeLine_eq]; omega)
    have kp8 : ∀ b u, H7 b = some u → b ≠ da → upd H7 da (.dK (putK kvs1 (.inr "slot") (.int sn))) b = some u := fun b u e n => by rw [upd_ne n]; exact e
    have d8 : upd H7 da (.dK (putK kvs1 (.inr "slot") (.int sn))) da = some (.dK (putK kvs1 (.inr "slot") (.int sn))) := upd_same
    have k8 : (putK kvs1 (.inr "slot") (.int sn)).length ≤ kvs1.length + 1 := length_putK ..
    walk_at "go"
    generalize upd H7 da (.dK (putK kvs1 (.inr "slot") (.int sn))) = H8 at kp8 d8
    generalize hk2 : putK kvs1 (.inr "slot") (.int sn) = kvs2 at d8 k8
    intro zq z0 z1 z2 H9 hz9 s9 badz
    have d9 := s9 _ _ d8
    have dp10 : DPut H9 da (.str "sizes") (.ref zq) (upd H9 da (.dK (putK kvs2 (.inr "sizes") (.ref zq)))) := DPut.k (k := .inr "sizes") d9 (by rw [sizeLine_eq]; omega)
    have kp10 : ∀ b u, H9 b = some u → b ≠ da → upd H9 da (.dK (putK kvs2 (.inr "sizes") (.ref zq))) b = some u := fun b u e n => by rw [upd_ne n]; exact e
    have d10 : upd H9 da (.dK (putK kvs2 (.inr "sizes") (.ref zq))) da = some (.dK (putK kvs2 (.inr "sizes") (.ref zq))) := upd_same
    have k10 : (putK kvs2 (.inr "sizes") (.ref zq)).length ≤ kvs2.length + 1 := length_putK ..
    have nf : f ≠ da := ne_of_none (s3 _ _ e12) hda
    have nsl : sl ≠ da := ne_of_none (s3 _ _ (e2)) hda
    have f8 : ∀ b u, H3 b = some u → b ≠ da → H9 b = some u := fun b u e n => s9 _ _ (kp8 _ _ (kp7 _ _ (kp6 _ _ (s35 _ _ e) n) n) n)
    have f10 : upd H9 da (.dK (putK kvs2 (.inr "sizes") (.ref zq))) f = some (.lst (Rr.cs.map V.int)) := kp10 _ _ (f8 _ _ (s3 _ _ e12) nf) nf
    walk_at "go"
    generalize upd H9 da (.dK (putK kvs2 (.inr "sizes") (.ref zq))) = H10 at kp10 d10 f10
    generalize hk3 : putK kvs2 (.inr "sizes") (.ref zq) = kvs3 at d10 k10
    intro fn nfn
    have nfn' : ¬ Used Rr fn := fun w => nfn ⟨w.1.1, by have := w.1.2; exact this, w.2⟩
    have okr : OkR (c % 4) := ⟨by omega, by omega⟩
    walk_at "go"
    refine fun y dy hy hdy ne => ⟨y, dy, c % 4, fn, rfl, upd_same, fun _ => ⟨rfl, ?_⟩, fun z => absurd okr z⟩
    have s11 : Same H10 (upd (upd (upd H10 dy (.own y)) y (.ins a.c_Held dy [])) y (.ins a.c_Held dy (Lf.held (c % 4) fn).fs)) := fun b u e => by
      rw [upd_ne (ne_of_none e hy), upd_ne (ne_of_none e hy), upd_ne (ne_of_none e hdy)]; exact e
    have lf : LfAt a (upd (upd (upd H10 dy (.own y)) y (.ins a.c_Held dy [])) y (.ins a.c_Held dy (Lf.held (c % 4) fn).fs)) y (Lf.held (c % 4) fn) := ⟨dy, upd_same⟩
    generalize upd (upd (upd H10 dy (.own y)) y (.ins a.c_Held dy [])) y (.ins a.c_Held dy (Lf.held (c % 4) fn).fs) = H11 at s11 lf
    have d11 := s11 _ _ d10
    have dp12 : DPut H11 da (.str "leaf") (.ref y) (upd H11 da (.dK (putK kvs3 (.inr "leaf") (.ref y)))) := DPut.k (k := .inr "leaf") d11 (by rw [sizeLine_eq]; omega)
    have kp12 : ∀ b u, H11 b = some u → b ≠ da → upd H11 da (.dK (putK kvs3 (.inr "leaf") (.ref y))) b = some u := fun b u e n => by rw [upd_ne n]; exact e
    have d12 : upd H11 da (.dK (putK kvs3 (.inr "leaf") (.ref y))) da = some (.dK (putK kvs3 (.inr "leaf") (.ref y))) := upd_same
    have k12 : (putK kvs3 (.inr "leaf") (.ref y)).length ≤ kvs3.length + 1 := length_putK ..
    have nwq : wq ≠ da := fun z => by rw [z, e4] at hwq; cases hwq
    have nzq : zq ≠ da := fun z => by rw [z, d9] at hz9; cases hz9
    have nyd : y ≠ da := fun z => by rw [z, d10] at hy; cases hy
    have lvH : ∀ b, b ∈ fp → ∃ u, H3 b = some u ∧ b ≠ da := fun b hb => by
      obtain ⟨u, e⟩ := PL.live b hb
      have e3' := s3 _ _ (s2 _ _ (s1 _ _ e))
      exact ⟨u, e3', ne_of_none e3' hda⟩
    have D12 : Dk a (upd H11 da (.dK (putK kvs3 (.inr "leaf") (.ref y)))) Rr Ss sz fp da (putK kvs3 (.inr "leaf") (.ref y)) n (c / 8 % sz) (c % (2 : Int) ^ (64 : Int).toNat) := by
      subst hk3; subst hk2; subst hk1
      refine ⟨d12, by omega, ⟨wq, ws, ?_, kp12 _ _ (s11 _ _ (kp10 _ _ (s9 _ _ (kp8 _ _ (kp7 _ _ (kp6 _ _ ew nwq) nwq) nwq)) nwq)) nwq, fun z => ?_, badw⟩, ?_, ?_, ?_, ⟨sn, ?_, nsn'⟩, ⟨zq, z0, z1, z2, ?_, kp12 _ _ (s11 _ _ (kp10 _ _ hz9 nzq)) nzq, badz⟩, ⟨y, _, ?_, ?_, fun z => ?_, .inl ⟨c % 4, fn, rfl, nfn'⟩⟩⟩
      · rw [valV_put, if_neg (by decide +kernel), valV_put, if_neg (by decide +kernel), valV_put, if_neg (by decide +kernel), valV_put, if_neg (by decide +kernel)]; exact v3
      · obtain ⟨u', e, _⟩ := lvH _ z
        rw [s4 _ _ e] at hwq; cases hwq
      · rw [valV_put, if_neg (by decide +kernel), valV_put, if_neg (by decide +kernel), valV_put, if_neg (by decide +kernel), valV_put, if_pos rfl]
      · rw [valV_put, if_neg (by decide +kernel), valV_put, if_neg (by decide +kernel), valV_put, if_neg (by decide +kernel), valV_put, if_neg (by decide +kernel)]; exact v1
      · rw [valV_put, if_neg (by decide +kernel), valV_put, if_neg (by decide +kernel), valV_put, if_neg (by decide +kernel), valV_put, if_neg (by decide +kernel)]; exact v2
      · rw [valV_put, if_neg (by decide +kernel), valV_put, if_neg (by decide +kernel), valV_put, if_pos rfl]
      · rw [valV_put, if_neg (by decide +kernel), valV_put, if_pos rfl]
      · rw [valV_put, if_pos rfl]
      · obtain ⟨dl, hl'⟩ := id lf
        exact ⟨dl, kp12 _ _ hl' nyd⟩
      · obtain ⟨u', e, nd⟩ := lvH _ z
        rw [kp10 _ _ (f8 _ _ e nd) nd] at hy; cases hy
    have sl12 : upd H11 da (.dK (putK kvs3 (.inr "leaf") (.ref y))) sl = some (.lst (Ss.cs.map V.int)) := kp12 _ _ (s11 _ _ (kp10 _ _ (f8 _ _ (s3 _ _ e2) nsl) nsl)) nsl
    have fl12 : upd H11 da (.dK (putK kvs3 (.inr "leaf") (.ref y))) f = some (.lst (Rr.cs.map V.int)) := kp12 _ _ (s11 _ _ f10) nf
    have sm12 : Same H (upd H11 da (.dK (putK kvs3 (.inr "leaf") (.ref y)))) := fun b u e => by
      have e3' := s3 _ _ (s2 _ _ (s1 _ _ e))
      have nd := ne_of_none e3' hda
      exact kp12 _ _ (s11 _ _ (kp10 _ _ (f8 _ _ e3' nd) nd)) nd
    walk_at "go"
    generalize upd H11 da (.dK (putK kvs3 (.inr "leaf") (.ref y))) = H12 at kp12 d12 D12 sl12 fl12 sm12
    generalize putK kvs3 (.inr "leaf") (.ref y) = kvs4 at d12 k12 D12
    refine iteI (fun zb => ?_) (fun zb => ?_)
    · walk_at "go"
      intro on non
      have non' : ¬ Used Ss on := fun w => non ⟨w.1.1, by have := w.1.2; exact this, w.2⟩
      walk_at "go"
      refine fun y2 dy2 hy2 hdy2 ne2 => ⟨y2, dy2, c % 4, on, rfl, upd_same, fun _ => ⟨rfl, ?_⟩, fun z => absurd okr z⟩
      have s13 : Same H12 (upd (upd (upd H12 dy2 (.own y2)) y2 (.ins a.c_Out dy2 [])) y2 (.ins a.c_Out dy2 (Lf.out (c % 4) on).fs)) := fun b u e => by
        rw [upd_ne (ne_of_none e hy2), upd_ne (ne_of_none e hy2), upd_ne (ne_of_none e hdy2)]; exact e
      have lf2 : LfAt a (upd (upd (upd H12 dy2 (.own y2)) y2 (.ins a.c_Out dy2 [])) y2 (.ins a.c_Out dy2 (Lf.out (c % 4) on).fs)) y2 (Lf.out (c % 4) on) := ⟨dy2, upd_same⟩
      generalize upd (upd (upd H12 dy2 (.own y2)) y2 (.ins a.c_Out dy2 [])) y2 (.ins a.c_Out dy2 (Lf.out (c % 4) on).fs) = H13 at s13 lf2
      have D13 := D12.same s13
      have d13 := D13.hd
      have l13 := D13.len
      have dp14 : DPut H13 da (.str "leaf") (.ref y2) (upd H13 da (.dK (putK kvs4 (.inr "leaf") (.ref y2)))) := DPut.k (k := .inr "leaf") d13 (by rw [sizeLine_eq]; omega)
      have ny2 : y2 ≠ da := fun z => by rw [z, d12] at hy2; cases hy2
      have D14 := D13.leaf lf2 (fun z => by obtain ⟨u', e⟩ := PL.live _ z; rw [sm12 _ _ e] at hy2; cases hy2) ny2 (.inr ⟨c % 4, on, rfl, non'⟩)
      have sm14 : Same H (upd H13 da (.dK (putK kvs4 (.inr "leaf") (.ref y2)))) := fun b u e => by
        have nd := ne_of_none (s3 _ _ (s2 _ _ (s1 _ _ e))) hda
        rw [upd_ne nd]; exact s13 _ _ (sm12 _ _ e)
      walk_at "go"
      have fl14 : upd H13 da (.dK (putK kvs4 (.inr "leaf") (.ref y2))) f = some (.lst (Rr.cs.map V.int)) := by rw [upd_ne nf]; exact s13 _ _ fl12
      generalize upd H13 da (.dK (putK kvs4 (.inr "leaf") (.ref y2))) = H14 at D14 sm14 fl14
      intro l0 hl0
      generalize hh : upd _ l0 _ = H30
      obtain ⟨s30, e30⟩ := newO hl0 hh
      clear hh
      walk_at "go"
      intro l1 hl1
      generalize hh : upd _ l1 _ = H31
      obtain ⟨s31, e31⟩ := newO hl1 hh
      clear hh
      walk_at "go"
      intro l2 hl2
      generalize hh : upd _ l2 _ = H32
      obtain ⟨s32, e32⟩ := newO hl2 hh
      clear hh
      walk_at "go"
      intro l3 hl3
      generalize hh : upd _ l3 _ = H33
      obtain ⟨s33, e33⟩ := newO hl3 hh
      clear hh
      walk_at "go"
      intro l4 hl4
      generalize hh : upd _ l4 _ = H34
      obtain ⟨s34, e34⟩ := newO hl4 hh
      clear hh
      walk_at "go"
      intro l5 hl5
      generalize hh : upd _ l5 _ = H35
      obtain ⟨s35, e35⟩ := newO hl5 hh
      clear hh
      walk_at "go"
      intro l6 hl6
      generalize hh : upd _ l6 _ = H36
      obtain ⟨s36, e36⟩ := newO hl6 hh
      clear hh
      walk_at "go"
      intro l7 hl7
      generalize hh : upd _ l7 _ = H37
      obtain ⟨s37, e37⟩ := newO hl7 hh
      clear hh
      walk_at "go"
      intro l8 hl8
      generalize hh : upd _ l8 _ = H38
      obtain ⟨s38, e38⟩ := newO hl8 hh
      clear hh
      walk_at "go"
      intro lq hlq
      generalize hh : upd _ lq _ = H40
      obtain ⟨s40, e40⟩ := newO hlq hh
      clear hh
      have s30' := (((((((((s30.trans s31).trans s32).trans s33).trans s34).trans s35).trans s36).trans s37).trans s38).trans s40)
      obtain ⟨dl, adl, hdl⟩ : ∃ dl, atI [V.ref l0, .ref l1, .ref l2, .ref l3, .ref l4, .ref l5, .ref l6, .ref l7, .ref l8] (way : Int) = some (.ref dl) ∧ H40 dl = some (.lst ((dueS way).map V.str)) := by
        have wv : way = 0 ∨ way = 1 ∨ way = 2 ∨ way = 3 ∨ way = 4 ∨ way = 5 ∨ way = 6 ∨ way = 7 ∨ way = 8 := by omega
        rcases wv with rfl | rfl | rfl | rfl | rfl | rfl | rfl | rfl | rfl
        · exact ⟨l0, rfl, s40 _ _ (s38 _ _ (s37 _ _ (s36 _ _ (s35 _ _ (s34 _ _ (s33 _ _ (s32 _ _ (s31 _ _ (e30)))))))))⟩
        · exact ⟨l1, rfl, s40 _ _ (s38 _ _ (s37 _ _ (s36 _ _ (s35 _ _ (s34 _ _ (s33 _ _ (s32 _ _ (e31))))))))⟩
        · exact ⟨l2, rfl, s40 _ _ (s38 _ _ (s37 _ _ (s36 _ _ (s35 _ _ (s34 _ _ (s33 _ _ (e32)))))))⟩
        · exact ⟨l3, rfl, s40 _ _ (s38 _ _ (s37 _ _ (s36 _ _ (s35 _ _ (s34 _ _ (e33))))))⟩
        · exact ⟨l4, rfl, s40 _ _ (s38 _ _ (s37 _ _ (s36 _ _ (s35 _ _ (e34)))))⟩
        · exact ⟨l5, rfl, s40 _ _ (s38 _ _ (s37 _ _ (s36 _ _ (e35))))⟩
        · exact ⟨l6, rfl, s40 _ _ (s38 _ _ (s37 _ _ (e36)))⟩
        · exact ⟨l7, rfl, s40 _ _ (s38 _ _ (e37))⟩
        · exact ⟨l8, rfl, s40 _ _ (e38)⟩
      have fin := t11 f sl u da dl far H40 _ n (c / 8 % sz) (c % (2 : Int) ^ (64 : Int).toNat) (D14.same s30') (s30' _ _ fl14) un ⟨Int.emod_nonneg _ (by omega), Int.emod_lt_of_pos _ (by omega)⟩ f0 hdl (sm14.trans s30') (fun b u e => ne_of_none (s3 _ _ (s2 _ _ (s1 _ _ e))) hda) nf
      repeat (first | exact fin | (apply And.intro; (walk_at "cl")) | walk_at "ex")
    · walk_at "go"
      intro l0 hl0
      generalize hh : upd _ l0 _ = H30
      obtain ⟨s30, e30⟩ := newO hl0 hh
      clear hh
      walk_at "go"
      intro l1 hl1
      generalize hh : upd _ l1 _ = H31
      obtain ⟨s31, e31⟩ := newO hl1 hh
      clear hh
      walk_at "go"
      intro l2 hl2
      generalize hh : upd _ l2 _ = H32
      obtain ⟨s32, e32⟩ := newO hl2 hh
      clear hh
      walk_at "go"
      intro l3 hl3
      generalize hh : upd _ l3 _ = H33
      obtain ⟨s33, e33⟩ := newO hl3 hh
      clear hh
      walk_at "go"
      intro l4 hl4
      generalize hh : upd _ l4 _ = H34
      obtain ⟨s34, e34⟩ := newO hl4 hh
      clear hh
      walk_at "go"
      intro l5 hl5
      generalize hh : upd _ l5 _ = H35
      obtain ⟨s35, e35⟩ := newO hl5 hh
      clear hh
      walk_at "go"
      intro l6 hl6
      generalize hh : upd _ l6 _ = H36
      obtain ⟨s36, e36⟩ := newO hl6 hh
      clear hh
      walk_at "go"
      intro l7 hl7
      generalize hh : upd _ l7 _ = H37
      obtain ⟨s37, e37⟩ := newO hl7 hh
      clear hh
      walk_at "go"
      intro l8 hl8
      generalize hh : upd _ l8 _ = H38
      obtain ⟨s38, e38⟩ := newO hl8 hh
      clear hh
      walk_at "go"
      intro lq hlq
      generalize hh : upd _ lq _ = H40
      obtain ⟨s40, e40⟩ := newO hlq hh
      clear hh
      have s30' := (((((((((s30.trans s31).trans s32).trans s33).trans s34).trans s35).trans s36).trans s37).trans s38).trans s40)
      obtain ⟨dl, adl, hdl⟩ : ∃ dl, atI [V.ref l0, .ref l1, .ref l2, .ref l3, .ref l4, .ref l5, .ref l6, .ref l7, .ref l8] (way : Int) = some (.ref dl) ∧ H40 dl = some (.lst ((dueS way).map V.str)) := by
        have wv : way = 0 ∨ way = 1 ∨ way = 2 ∨ way = 3 ∨ way = 4 ∨ way = 5 ∨ way = 6 ∨ way = 7 ∨ way = 8 := by omega
        rcases wv with rfl | rfl | rfl | rfl | rfl | rfl | rfl | rfl | rfl
        · exact ⟨l0, rfl, s40 _ _ (s38 _ _ (s37 _ _ (s36 _ _ (s35 _ _ (s34 _ _ (s33 _ _ (s32 _ _ (s31 _ _ (e30)))))))))⟩
        · exact ⟨l1, rfl, s40 _ _ (s38 _ _ (s37 _ _ (s36 _ _ (s35 _ _ (s34 _ _ (s33 _ _ (s32 _ _ (e31))))))))⟩
        · exact ⟨l2, rfl, s40 _ _ (s38 _ _ (s37 _ _ (s36 _ _ (s35 _ _ (s34 _ _ (s33 _ _ (e32)))))))⟩
        · exact ⟨l3, rfl, s40 _ _ (s38 _ _ (s37 _ _ (s36 _ _ (s35 _ _ (s34 _ _ (e33))))))⟩
        · exact ⟨l4, rfl, s40 _ _ (s38 _ _ (s37 _ _ (s36 _ _ (s35 _ _ (e34)))))⟩
        · exact ⟨l5, rfl, s40 _ _ (s38 _ _ (s37 _ _ (s36 _ _ (e35))))⟩
        · exact ⟨l6, rfl, s40 _ _ (s38 _ _ (s37 _ _ (e36)))⟩
        · exact ⟨l7, rfl, s40 _ _ (s38 _ _ (e37))⟩
        · exact ⟨l8, rfl, s40 _ _ (e38)⟩
      have fin := t11 f sl u da dl far H40 _ n (c / 8 % sz) (c % (2 : Int) ^ (64 : Int).toNat) (D12.same s30') (s30' _ _ fl12) un ⟨Int.emod_nonneg _ (by omega), Int.emod_lt_of_pos _ (by omega)⟩ f0 hdl (sm12.trans s30') (fun b u e => ne_of_none (s3 _ _ (s2 _ _ (s1 _ _ e))) hda) nf
      repeat (first | exact fin | (apply And.intro; (walk_at "cl")) | walk_at "ex")
end
end K30

set_option maxHeartbeats 4000000
namespace K30
open PySem L2
theorem cnt_put {L : List Int} (h : 0 ∈ L) {c : Int} (hc : c ≠ 0) : (L.set (L.idxOf 0) c).count 0 + 1 = L.count 0 := by
  have hl := List.idxOf_lt_length_of_mem h
  have := List.count_pos_iff.mpr h
  rw [List.count_set hl, List.getElem_idxOf]
  simp [hc]
  omega
theorem cnt_out {L : List Int} {i : Nat} (h : 0 ∉ L) (hi : i < L.length) : (L.set i 0).count 0 = 1 := by
  have h1 : L.count 0 = 0 := List.count_eq_zero.mpr h
  have h2 : L[i] ≠ 0 := fun e => h (e ▸ List.getElem_mem hi)
  rw [List.count_set hi, h1]
  simp [h2]
theorem cnt_chg {L : List Int} {i : Nat} {c : Int} (hi : i < L.length) (h : L.getD i 0 ≠ 0) (hc : c ≠ 0) : (L.set i c).count 0 = L.count 0 := by
  have h2 : L[i] ≠ 0 := by rw [List.getD_eq_getElem?_getD, List.getElem?_eq_getElem hi] at h; exact h
  rw [List.count_set hi]
  simp [h2, hc]
theorem made_count {R S : Rooms} {bs : List Bool} {st : Nat} {ws : List Int} (ln : bs.length = R.length) (hs : st < bs.length) (rm : 0 ∈ R.cs ∨ 0 ∈ S.cs) :
    (madeR R S bs st 1 ws).cs.count 0 + (outS R S bs st).cs.count 0 + 1 = R.cs.count 0 + S.cs.count 0 ∧ Used (madeR R S bs st 1 ws) (idx0 (outR R S bs st) : Int) := by
  have o0 := out_free (S := S) ln hs
  have lo := List.idxOf_lt_length_of_mem o0
  refine ⟨?_, ⟨⟨by omega, ?_⟩, ?_⟩⟩
  · have m1 : (madeR R S bs st 1 ws).cs.count 0 + 1 = (outR R S bs st).cs.count 0 := by
      unfold madeR idx0
      rw [Rooms.cs_set]
      exact cnt_put o0 (by decide)
    by_cases h : 0 ∈ R.cs
    · have e1 : outR R S bs st = R := by unfold outR; rw [if_pos h]
      have e2 : outS R S bs st = S := by unfold outS; rw [if_pos h]
      rw [e1] at m1
      rw [e2]
      omega
    · have h2 : 0 ∈ S.cs := rm.resolve_left h
      have cl : chs bs st < R.length := by
        have := (sweep_len (bs.count true) bs st hs).2
        unfold chs; omega
      have e1 : (outR R S bs st).cs.count 0 = 1 := by
        unfold outR
        rw [if_neg h, Rooms.cs_set]
        exact cnt_out h (by rw [List.length_map]; exact cl)
      have e3 : R.cs.count 0 = 0 := List.count_eq_zero.mpr h
      have e2 : (outS R S bs st).cs.count 0 + 1 = S.cs.count 0 := by
        unfold outS idx0
        rw [if_neg h, Rooms.cs_set]
        refine cnt_put h2 fun z => h ?_
        rw [← z]
        unfold cntOf
        rw [Int.toNat_natCast, List.getD_eq_getElem?_getD, List.getElem?_eq_getElem (by rw [List.length_map]; exact cl)]
        exact List.getElem_mem _
      omega
  · unfold madeR
    rw [Rooms.cs_set, List.length_set]
    unfold idx0
    omega
  · unfold madeR
    rw [Rooms.cs_set, Int.toNat_natCast, List.getD_eq_getElem?_getD, List.getElem?_set_self (by unfold idx0; exact lo)]
    decide
theorem more_count {R : Rooms} {n : Int} (u : Used R n) (nn : ∀ c ∈ R.cs, 0 ≤ c) : (addR R n 1).cs.count 0 = R.cs.count 0 ∧ Used (addR R n 1) n := by
  obtain ⟨⟨h0, h1⟩, h2⟩ := u
  have hl : n.toNat < R.cs.length := by omega
  have c1 : cntOf R n + 1 ≠ 0 := by
    have : 0 ≤ cntOf R n := nn _ (by unfold cntOf; rw [List.getD_eq_getElem?_getD, List.getElem?_eq_getElem hl]; exact List.getElem_mem _)
    omega
  unfold addR
  refine ⟨?_, ⟨⟨h0, ?_⟩, ?_⟩⟩
  · rw [Rooms.cs_set]; exact cnt_chg hl h2 c1
  · rw [Rooms.cs_set, List.length_set]; exact h1
  · rw [Rooms.cs_set, List.getD_eq_getElem?_getD, List.getElem?_set_self hl]; exact c1
def spOthers30 (a : Adr) : Sp := fun vs H Q _ => ∃ (p : Addr) (sz c : Int) (R S : Rooms) (bs : List Bool) (st : Nat) (fp : List Addr), vs = [.ref p, .int sz, .int c] ∧ PlAt a H p sz R S bs st fp ∧ ∀ H', Q (.bl true) H'
section
variable {P : Program} {w : World} {K : PySem.W.Frag} {mg : Str → Option Value} {base : Heap} {a : Adr}
theorem ok__law_others {dvs : List V} (R : RawF K mg "_law_others" s__law_others ["_law_pool", "_law_size", "_law_cell"] dvs) (T : Txt K mg a)
    (h__law_told : HasFn P w K mg base 5 "_law_told" ["_law_pool"] (spTold30 a) [])
    (h_Named___init__ : HasMk P w K mg base a.c_Named 3 ["self", "rights", "name", "part"] (spNamedInit a) [])
    (h_Fresh___init__ : HasMk P w K mg base a.c_Fresh 2 ["self", "rights"] (spLeafInit a K) [])
    (h_Pool_more : HasMe P w K mg base a.c_Pool 5 "more" ["self", "leaf"] (spPMore a) [])
    (h_Pool_less : HasMe P w K mg base a.c_Pool 5 "less" ["self", "leaf"] (spPLess a) [])
    (h_Pool_words : HasMe P w K mg base a.c_Pool 4 "words" ["self", "leaf"] (spPWords a) [])
    (h_Pool_count : HasMe P w K mg base a.c_Pool 4 "count" ["self", "leaf"] (spPCount a) []) :
    HasFn P w K mg base 6 "_law_others" ["_law_pool", "_law_size", "_law_cell"] (spOthers30 a) dvs := by
  refine R.ok sc__law_others (fun vs H Q E h => ?_) (fun f cdv A outer s H vs Q E hr h => ?_)
  · obtain ⟨p, sz, c, Rr, Ss, bs, st, fp, rfl, _⟩ := h
    rfl
  obtain ⟨p, sz, c, Rr, Ss, bs, st, fp, rfl, PL, k⟩ := h
  refine ⟨_, (@pss_cons _ _ _ _ _ (@ps_set _ _ 3 _ _ _ _ sc__law_others.nd rfl (by first | exact Or.inl rfl | exact Or.inr rfl) (pe_fn h__law_told (hr.mono (by decide)) (by rfl) pass_def (@pa_cn _ _ _ _ _ (pv 0) pa_nil rfl)) (by rfl) (by first | exact Or.inl rfl | exact Or.inr rfl))
      (@pss_cons _ _ _ _ _ (ps_for own_def rfl (pi_list (@pe_lst _ _ _ _ (@pa_cn _ _ _ _ _ (pe_mk h_Fresh___init__ (hr.mono (by decide)) (by rfl) T.m_Fresh pass_def (@pa_cn _ _ _ _ _ (pe_op op_mod (pv 2) pe_int) pa_nil rfl)) (@pa_cn _ _ _ _ _ (pe_mk h_Named___init__ (hr.mono (by decide)) (by rfl) T.m_Named pass_def (@pa_cn _ _ _ _ _ (pe_op op_mod (pv 2) pe_int) (@pa_cn _ _ _ _ _ pe_str (@pa_cn _ _ _ _ _ (pe_op op_mod (pe_op op_fdiv (pv 2) pe_int) pe_int) pa_nil rfl) rfl) rfl)) pa_nil rfl) rfl))) (pg_name (i := 4) sc__law_others.nd rfl (by first | exact Or.inl rfl | exact Or.inr rfl))
      (@pss_cons _ _ _ _ _ (ps_expr (pe_me (pv 0) T.cl_Pool h_Pool_more (hr.mono (by decide)) pass_def (@pa_cn _ _ _ _ _ (pv 4) pa_nil rfl)))
      (@pss_one _ _ _ (ps_expr (pe_me (pv 0) T.cl_Pool h_Pool_less (hr.mono (by decide)) pass_def (@pa_cn _ _ _ _ _ (pv 4) pa_nil rfl))))))
      (@pss_cons _ _ _ _ _ (@ps_set _ _ 5 _ _ _ _ sc__law_others.nd rfl (by first | exact Or.inl rfl | exact Or.inr rfl) (pe_me (pv 0) T.cl_Pool h_Pool_words (hr.mono (by decide)) pass_def (@pa_cn _ _ _ _ _ (pe_mk h_Fresh___init__ (hr.mono (by decide)) (by rfl) T.m_Fresh pass_def (@pa_cn _ _ _ _ _ (pe_op op_mod (pv 2) pe_int) pa_nil rfl)) pa_nil rfl)) (by rfl) (by first | exact Or.inl rfl | exact Or.inr rfl))
      (@pss_cons _ _ _ _ _ (ps_if (PW.pt (pw_or (pt_not (pt_val (pe_callB call_isinst (by rfl) T.b_isinstance PyProof.Rows.Boot.«isinstance» (@pa_cn _ _ _ _ _ (pv 5) (@pa_cn _ _ _ _ _ (pe_bltn (v := .ty "list") (by rfl) T.b_list PyProof.Rows.Boot.«list» rfl) pa_nil rfl) rfl)))) (pw_or (pt_cmpR (op_neD hr.units) (pv 5) (pe_op op_rep (@pe_lst _ _ _ _ (@pa_cn _ _ _ _ _ pe_int pa_nil rfl)) (pv 1)) (nomark _)) (pw_or1 (pt_cmpR op_ne (pe_me (pv 0) T.cl_Pool h_Pool_count (hr.mono (by decide)) pass_def (@pa_cn _ _ _ _ _ (pe_mk h_Fresh___init__ (hr.mono (by decide)) (by rfl) T.m_Fresh pass_def (@pa_cn _ _ _ _ _ (pe_op op_mod (pv 2) pe_int) pa_nil rfl)) pa_nil rfl)) pe_int (nomark _)))))) (@pss_one _ _ _ (@ps_ret _ _ _ _ pe_bl)) pss_nil)
      (@pss_cons _ _ _ _ _ (ps_expr (pe_bm PySem.F.plainAttrs_list PySem.F.slot_list_append PySem.F.type_list_append mt_append (pv 5) (@pa_cn _ _ _ _ _ pe_int pa_nil rfl)))
      (@pss_one _ _ _ (@ps_ret _ _ _ _ (pe_and (pe_cmpR (op_eqD hr.units) (pe_fn h__law_told (hr.mono (by decide)) (by rfl) pass_def (@pa_cn _ _ _ _ _ (pv 0) pa_nil rfl)) (pv 3) (nomark _)) (pe_one (pe_cmpR (op_eqD hr.units) (pe_me (pv 0) T.cl_Pool h_Pool_words (hr.mono (by decide)) pass_def (@pa_cn _ _ _ _ _ (pe_mk h_Fresh___init__ (hr.mono (by decide)) (by rfl) T.m_Fresh pass_def (@pa_cn _ _ _ _ _ pe_int pa_nil rfl)) pa_nil rfl)) (pe_op op_rep (@pe_lst _ _ _ _ (@pa_cn _ _ _ _ _ pe_int pa_nil rfl)) (pv 1)) (nomark _))))))))))), ?_⟩
  obtain ⟨dx, f1', g, h, f2', f3', f4', P', _⟩ := id PL
  have hp := P'.ob
  have t1 := T.cl_Pool
  obtain ⟨sz1, sz64⟩ := P'.s1.sz
  have okr : OkR (c % 4) := ⟨by omega, by omega⟩
  walk_at "go"
  intro q1 H1 T1 s1
  have PL1 := PL.same s1
  have hp1 := s1 _ _ hp
  walk_at "go"
  refine fun y dy hy hdy ne => ⟨y, dy, a.c_Fresh, c % 4, rfl, upd_same, T.cl_Fresh, T.n_Fresh_rights, fun _ => ⟨rfl, ?_⟩, fun z => absurd okr z⟩
  generalize hh : upd (upd (upd _ dy _) y _) y _ = H2
  obtain ⟨s2, e2⟩ := newI hy hdy hh
  clear hh
  have lf2 : LfAt a H2 y (.fresh (c % 4)) := ⟨dy, e2⟩
  walk_at "go"
  refine fun y2 dy2 hy2 hdy2 ne2 => ⟨y2, dy2, c % 4, c / 4 % 64, "ab", rfl, upd_same, fun _ => ⟨rfl, ?_⟩, fun z => absurd okr z⟩
  generalize hh : upd (upd (upd _ dy2 _) y2 _) y2 _ = H3
  obtain ⟨s3, e3⟩ := newI hy2 hdy2 hh
  clear hh
  have lf3 : LfAt a H3 y2 (.named (c % 4) "ab" (c / 4 % 64)) := ⟨dy2, e3⟩
  walk_at "go"
  intro l hl
  generalize hh : upd _ l _ = H4
  obtain ⟨s4, e4⟩ := newO hl hh
  clear hh
  have ny : y ∉ fp := fun z => by obtain ⟨u, e⟩ := PL1.live y z; rw [hy] at e; cases e
  have ny2 : y2 ∉ fp := fun z => by obtain ⟨u, e⟩ := (PL1.same s2).live y2 z; rw [hy2] at e; cases e
  have lf24 := lf2.same (s3.trans s4)
  have lf34 := lf3.same s4
  have s14 := (s2.trans s3).trans s4
  have PL4 := PL1.same s14
  have hp4 := s14 _ _ hp1
  walk_at "go"
  refine for_list (xs := [.ref y, .ref y2]) (fun i σ H' => Bx (∃ v4 : Option V, σ = [some (.ref p), some (.int sz), some (.int c), some (.ref q1), v4, none] ∧ Same H4 H')) ⟨_, rfl, .refl _⟩ (fun i σ H' _ z => ?_) ?_ ?_
  · obtain ⟨v4, _, s⟩ := z
    exact SqL.of (s _ _ e4)
  · rintro i v σ H5 hi ⟨v4, rfl, s5⟩
    have PL5 := PL4.same s5
    have hp5 := s5 _ _ hp4
    have gl : ∃ x g, v = .ref x ∧ LfAt a H5 x g ∧ (g.kind = 0 ∨ g.kind = 3) ∧ x ∉ fp := by
      match i, hi with
      | 0, hi => cases hi; exact ⟨y, _, rfl, lf24.same s5, .inl rfl, ny⟩
      | 1, hi => cases hi; exact ⟨y2, _, rfl, lf34.same s5, .inr rfl, ny2⟩
    obtain ⟨x, g', rfl, lf, kd, nx⟩ := gl
    walk_at "go"
    refine ⟨⟨fun r f e => ?_, fun r f e => ?_⟩, fun _ => ?_⟩
    · rw [e] at kd; rcases kd with z | z <;> cases z
    · rw [e] at kd; rcases kd with z | z <;> cases z
    walk_at "go"
    refine ⟨⟨fun r f e => ?_, fun r f e => ?_⟩, fun _ => ?_⟩
    · rw [e] at kd; rcases kd with z | z <;> cases z
    · rw [e] at kd; rcases kd with z | z <;> cases z
    walk_at "go"
    exact ⟨_, rfl, s5⟩
  · rintro σ H5 ⟨v4, rfl, s5⟩
    have PL5 := PL4.same s5
    have hp5 := s5 _ _ hp4
    walk_at "go"
    refine fun y3 dy3 hy3 hdy3 ne3 => ⟨y3, dy3, a.c_Fresh, c % 4, rfl, upd_same, T.cl_Fresh, T.n_Fresh_rights, fun _ => ⟨rfl, ?_⟩, fun z => absurd okr z⟩
    generalize hh : upd (upd (upd _ dy3 _) y3 _) y3 _ = H6
    obtain ⟨s6, e6⟩ := newI hy3 hdy3 hh
    clear hh
    have lf6 : LfAt a H6 y3 (.fresh (c % 4)) := ⟨dy3, e6⟩
    have PL6 := PL5.same s6
    have hp6 := s6 _ _ hp5
    walk_at "go"
    refine ⟨fun r f e => (by cases e), fun r f e => (by cases e), fun _ fr H7 hfr e7 s7 => ?_⟩
    have PL7 := PL6.same s7
    have hp7 := s7 _ _ hp6
    have kl := kit_self K (.type "list")
    have zr : [V.int 0].length * sz.toNat ≤ sizeLine := by rw [sizeLine_eq]; simp; omega
    have er : (List.replicate sz.toNat [V.int 0]).flatten = (List.replicate sz.toNat (0 : Int)).map V.int := by rw [flat_one, List.map_replicate]
    walk_at "go"
    intro z1 hz1
    generalize hh : upd _ z1 _ = H8
    obtain ⟨s8, e8⟩ := newO hz1 hh
    clear hh
    walk_at "go"
    intro z2 hz2
    rw [er]
    generalize hh : upd _ z2 _ = H9
    obtain ⟨s9, e9⟩ := newO hz2 hh
    clear hh
    have e79 := s9 _ _ (s8 _ _ e7)
    refine rNeD_self (.lst (SqL.of e79) (datAll_ints _ _ _)) (.lst (SqL.of e9) (datAll_ints _ _ _)) (Tid.ints _) ?_
    have PL9 := PL7.same (s8.trans s9)
    have hp9 := s9 _ _ (s8 _ _ hp7)
    walk_at "go"
    refine fun y4 dy4 hy4 hdy4 ne4 => ⟨y4, dy4, a.c_Fresh, c % 4, rfl, upd_same, T.cl_Fresh, T.n_Fresh_rights, fun _ => ⟨rfl, ?_⟩, fun z => absurd okr z⟩
    generalize hh : upd (upd (upd _ dy4 _) y4 _) y4 _ = H10
    obtain ⟨s10, e10⟩ := newI hy4 hdy4 hh
    clear hh
    have lf10 : LfAt a H10 y4 (.fresh (c % 4)) := ⟨dy4, e10⟩
    have PL10 := PL9.same s10
    have hp10 := s10 _ _ hp9
    have e710 := s10 _ _ e79
    have nfr : fr ∉ fp := fun z => by obtain ⟨u, e⟩ := PL6.live fr z; rw [hfr] at e; cases e
    have zl : ((List.replicate sz.toNat (0 : Int)).map V.int).length < sizeLine := by rw [List.length_map, List.length_replicate, sizeLine_eq]; omega
    walk_at "go"
    refine ⟨⟨fun r f e => (by cases e), fun r f e => (by cases e)⟩, fun _ => ?_⟩
    walk_at "go"
    have T10 := ((((((T1.same s14).same s5).same s6).same s7).same s8).same s9).same s10
    have k11 : ∀ b u, H10 b = some u → b ≠ fr → upd H10 fr (.lst ((List.replicate sz.toNat (0 : Int)).map V.int ++ [.int 1])) b = some u := fun b u e q => by rw [upd_ne q]; exact e
    have PL11 : PlAt a (upd H10 fr (.lst ((List.replicate sz.toNat (0 : Int)).map V.int ++ [.int 1]))) p sz Rr Ss bs st fp := PL10.eqv fun b u e hb => k11 b u e fun z => nfr (z ▸ hb)
    have T11 : Told (upd H10 fr (.lst ((List.replicate sz.toNat (0 : Int)).map V.int ++ [.int 1]))) q1 Rr Ss bs := by
      have h6 : ∀ b u, H6 b = some u → upd H10 fr (.lst ((List.replicate sz.toNat (0 : Int)).map V.int ++ [.int 1])) b = some u := fun b u e => k11 b u (s10 _ _ (s9 _ _ (s8 _ _ (s7 _ _ e)))) (ne_of_none e hfr)
      exact (((T1.same s14).same s5).same s6).same h6
    obtain ⟨dx11, _, _, _, _, _, _, P11', _⟩ := id PL11
    have hp11 := P11'.ob
    walk_at "go"
    intro q12 H12 T12 s12
    have T1' := T11.same s12
    have PL12 := PL11.same s12
    have hp12 := s12 _ _ hp11
    walk_at "go"
    refine rEqD_self T12.dat T1'.dat (told_tid Rr Ss bs) ?_
    have ok3 : OkR 3 := ⟨by decide, by decide⟩
    walk_at "go"
    refine fun y5 dy5 hy5 hdy5 ne5 => ⟨y5, dy5, a.c_Fresh, 3, rfl, upd_same, T.cl_Fresh, T.n_Fresh_rights, fun _ => ⟨rfl, ?_⟩, fun z => absurd ok3 z⟩
    generalize hh : upd (upd (upd _ dy5 _) y5 _) y5 _ = H13
    obtain ⟨s13, e13⟩ := newI hy5 hdy5 hh
    clear hh
    have lf13 : LfAt a H13 y5 (.fresh 3) := ⟨dy5, e13⟩
    have PL13 := PL12.same s13
    have hp13 := s13 _ _ hp12
    walk_at "go"
    refine ⟨fun r f e => (by cases e), fun r f e => (by cases e), fun _ fr2 H14 hfr2 e14 s14' => ?_⟩
    walk_at "go"
    intro z3 hz3
    generalize hh : upd _ z3 _ = H15
    obtain ⟨s15, e15⟩ := newO hz3 hh
    clear hh
    walk_at "go"
    intro z4 hz4
    rw [er]
    generalize hh : upd _ z4 _ = H16
    obtain ⟨s16, e16⟩ := newO hz4 hh
    clear hh
    have e1416 := s16 _ _ (s15 _ _ e14)
    exact rEqD_self (.lst (SqL.of e1416) (datAll_ints _ _ _)) (.lst (SqL.of e16) (datAll_ints _ _ _)) (Tid.ints _) (k _)
end
end K30

set_option maxHeartbeats 4000000
namespace K30
open PySem L2
def spCell (K : PySem.W.Frag) : Sp := fun vs H Q _ => ∃ (p : Addr) (ns : List Int) (k : Int), vs = [.ref p, .int k] ∧ SqL K H p (ns.map V.int) ∧ 0 ≤ k ∧ Q (.int (ns.getD k.toNat 0)) H
section
variable {P : Program} {w : World} {K : PySem.W.Frag} {mg : Str → Option Value} {base : Heap} {a : Adr}
theorem ok__law_cell_at {dvs : List V} (R : RawF K mg "_law_cell_at" s__law_cell_at ["_law_script", "_law_k"] dvs) (T : Txt K mg a) :
    HasFn P w K mg base 1 "_law_cell_at" ["_law_script", "_law_k"] (spCell K) dvs := by
  refine R.ok sc__law_cell_at (fun vs H Q E h => ?_) (fun f cdv A outer s H vs Q E hr h => ?_)
  · obtain ⟨p, ns, k, rfl, _⟩ := h
    rfl
  obtain ⟨p, ns, k, rfl, S, h0, q⟩ := h
  refine ⟨_, (@pss_cons _ _ _ _ _ (ps_if (pt_cmpR op_lt (pv 1) (pe_callB call_len_seq (by rfl) T.b_len PySem.boot_len (@pa_cn _ _ _ _ _ (pv 0) pa_nil rfl)) (nomark _)) (@pss_one _ _ _ (@ps_ret _ _ _ _ (@pe_ix _ _ _ _ _ _ _ ix_list (pv 0) (pv 1) (fun _ _ => rfl)))) pss_nil)
      (@pss_one _ _ _ (@ps_ret _ _ _ _ pe_int))), ?_⟩
  refine ⟨_, rfl, _, rfl, p, _, rfl, .inl S, _, _, rfl, rfl, _, rfl, iteD (fun c => ?_) fun c => ?_⟩
  · rw [List.length_map] at c
    exact ⟨_, rfl, _, rfl, p, _, _, _, rfl, rfl, S, atI_getD h0 c, q⟩
  · rw [List.length_map] at c
    rw [getD_out (by omega)] at q
    exact q
end
def spLaw (K : PySem.W.Frag) : Sp := fun vs H Q _ => ∃ (a : Addr) (ns : List Int), vs = [.ref a] ∧ SqL K H a (ns.map V.int) ∧ ns.length ≤ 63 ∧ ∀ H', Q (.bl true) H'
theorem nm_dat {K : PySem.W.Frag} {H : Hp} {q : Addr} {i : Nat} (h : H q = some (.lst [.str (nmE i)])) : DatV K H (.ref q) (.list [.str (nmE i)]) := .lst (SqL.of h) (.cons (.str _) .nil)
theorem nm_tid (i : Nat) : Tid 2 (.list [.str (nmE i)]) := Tid.list fun d hd => by
  rw [List.mem_singleton.mp hd]
  refine Tid.str ?_
  unfold nmE
  split
  · decide +kernel
  · split
    · decide +kernel
    · split <;> decide +kernel
theorem fresh_count (n : Nat) : (Rooms.cs (List.replicate n (0, []))).count 0 = n := by
  show ((List.replicate n ((0 : Int), ([] : List Int))).map (·.1)).count 0 = n
  rw [List.map_replicate, List.count_replicate_self]
section
variable {P : Program} {w : World} {K : PySem.W.Frag} {mg : Str → Option Value} {base : Heap} {a : Adr}
theorem ok_law {f : Addr} {oc : Value} {od : Option Addr} {dV kV doc pm : Value} {an : Option Addr} {cdv ct : Value} {osl : Array (Option Value)} (lk : K.lookup f = some ⟨oc, od, .func (PySem.W.fnOf "law" "law" (defArgs s_law) (defBody s_law) (defScope s_law) dV kV doc pm an cdv ct), osl⟩) (hcd : PySem.W.codeIn K cdv "law" = true) (T : Txt K mg a)
    (h__law_cell_at : HasFn P w K mg base 1 "_law_cell_at" ["_law_script", "_law_k"] (spCell K) [])
    (h_Pool___init__ : HasMk P w K mg base a.c_Pool 5 ["self", "frames", "slots", "size"] (spPInit a) [])
    (h_Pool_made : HasMe P w K mg base a.c_Pool 6 "made" ["self", "words"] (spPMade a) [])
    (h_Pool_more : HasMe P w K mg base a.c_Pool 5 "more" ["self", "leaf"] (spPMore a) [])
    (h_Held___init__ : HasMk P w K mg base a.c_Held 3 ["self", "rights", "frame"] (spHeldInit a) [])
    (h__law_mixed : HasFn P w K mg base 1 "_law_mixed" ["_law_raw"] (spMixed30) [])
    (h__law_told : HasFn P w K mg base 5 "_law_told" ["_law_pool"] (spTold30 a) [])
    (h__law_arguments : HasFn P w K mg base 5 "_law_arguments" ["_law_pool", "_law_way", "_law_size", "_law_cell"] (spArgs30 a) [])
    (h__law_found : HasFn P w K mg base 8 "_law_found" ["_law_pool", "_law_way", "_law_a"] (spFound30 a) [])
    (h__law_others : HasFn P w K mg base 6 "_law_others" ["_law_pool", "_law_size", "_law_cell"] (spOthers30 a) []) :
    FnOk P w K mg base (CXE P w) 9 f (PySem.W.fnOf "law" "law" (defArgs s_law) (defBody s_law) (defScope s_law) dV kV doc pm an cdv ct) ["_law_script"] (spLaw K) := by
  refine fn_of lk hcd sc_law (fun vs H Q E h => ?_) (fun A outer s H vs Q E hr h => ?_)
  · obtain ⟨sc, ss, rfl, _⟩ := h
    rfl
  obtain ⟨sc, ss, rfl, hS, hlen, k⟩ := h
  refine ⟨_, (@pss_cons _ _ _ _ _ (@ps_set _ _ 1 _ _ _ _ sc_law.nd rfl (by first | exact Or.inl rfl | exact Or.inr rfl) (pe_op op_add pe_int (pe_op op_mod (pe_fn h__law_cell_at (hr.mono (by decide)) (by rfl) pass_def (@pa_cn _ _ _ _ _ (pv 0) (@pa_cn _ _ _ _ _ pe_int pa_nil rfl) rfl)) pe_int)) (by rfl) (by first | exact Or.inl rfl | exact Or.inr rfl))
      (@pss_cons _ _ _ _ _ (@ps_set _ _ 2 _ _ _ _ sc_law.nd rfl (by first | exact Or.inl rfl | exact Or.inr rfl) (pe_op op_mod (pe_op op_fdiv (pe_fn h__law_cell_at (hr.mono (by decide)) (by rfl) pass_def (@pa_cn _ _ _ _ _ (pv 0) (@pa_cn _ _ _ _ _ pe_int pa_nil rfl) rfl)) pe_int) pe_int) (by rfl) (by first | exact Or.inl rfl | exact Or.inr rfl))
      (@pss_cons _ _ _ _ _ (@ps_set _ _ 3 _ _ _ _ sc_law.nd rfl (by first | exact Or.inl rfl | exact Or.inr rfl) (pe_op op_add pe_int (pe_op op_mod (pe_fn h__law_cell_at (hr.mono (by decide)) (by rfl) pass_def (@pa_cn _ _ _ _ _ (pv 0) (@pa_cn _ _ _ _ _ pe_int pa_nil rfl) rfl)) pe_int)) (by rfl) (by first | exact Or.inl rfl | exact Or.inr rfl))
      (@pss_cons _ _ _ _ _ (@ps_set _ _ 4 _ _ _ _ sc_law.nd rfl (by first | exact Or.inl rfl | exact Or.inr rfl) (pe_mk h_Pool___init__ (hr.mono (by decide)) (by rfl) T.m_Pool pass_def (@pa_cn _ _ _ _ _ (pv 1) (@pa_cn _ _ _ _ _ (pv 2) (@pa_cn _ _ _ _ _ (pv 3) pa_nil rfl) rfl) rfl)) (by rfl) (by first | exact Or.inl rfl | exact Or.inr rfl))
      (@pss_cons _ _ _ _ _ (ps_for own_def rfl (pi_range1 (by rfl) T.b_range (@pa_cn _ _ _ _ _ (pe_op op_add pe_int (pe_op op_mod (pe_fn h__law_cell_at (hr.mono (by decide)) (by rfl) pass_def (@pa_cn _ _ _ _ _ (pv 0) (@pa_cn _ _ _ _ _ pe_int pa_nil rfl) rfl)) (pe_op op_add (pv 1) (pv 2)))) pa_nil rfl)) (pg_name (i := 5) sc_law.nd rfl (by first | exact Or.inl rfl | exact Or.inr rfl))
      (@pss_cons _ _ _ _ _ (ps_asg (pe_me (pv 4) T.cl_Pool h_Pool_made (hr.mono (by decide)) pass_def (@pa_cn _ _ _ _ _ (pe_comp (xs := ["_law_j"]) (N' := ["_law_script", "_law_many", "_law_slots", "_law_size", "_law_pool", "_law_k", "_law_frame", "_law_moves", "_law_raw", "_law_cell", "_law_told_here", "_law_a", "_law_due"]) rfl ⟨rfl, by decide +kernel, by decide +kernel, by dsimp only [cxOf, PyProof.Rows.envOfC]; decide +kernel, by decide +kernel, by dsimp only [cxOf]; decide +kernel, rfl⟩ (pi_range1 (by rfl) T.b_range (@pa_cn _ _ _ _ _ (pv 3) pa_nil rfl)) (fun _ _ _ _ _ => (pg_name (i := 0) (by dsimp only [cxComp]; decide +kernel) rfl (by first | exact Or.inl rfl | exact Or.inr rfl))) (fun _ _ _ _ _ => pts_nil) (fun _ _ _ _ _ => (pe_op op_mul (pe_op op_add (pv 6) pe_int) (pe_op op_add (pv 0) pe_int)))) pa_nil rfl)) (pg_tup (n := 2) rfl (pgs_cons (pg_name (i := 6) sc_law.nd rfl (by first | exact Or.inl rfl | exact Or.inr rfl)) (pgs_cons (pg_name (i := 7) sc_law.nd rfl (by first | exact Or.inl rfl | exact Or.inr rfl)) pgs_nil))))
      (@pss_one _ _ _ (ps_if (pt_cmpR op_eq (pe_op op_mod (pv 5) pe_int) pe_int (nomark _)) (@pss_one _ _ _ (ps_expr (pe_me (pv 4) T.cl_Pool h_Pool_more (hr.mono (by decide)) pass_def (@pa_cn _ _ _ _ _ (pe_mk h_Held___init__ (hr.mono (by decide)) (by rfl) T.m_Held pass_def (@pa_cn _ _ _ _ _ pe_int (@pa_cn _ _ _ _ _ (pv 6) pa_nil rfl) rfl)) pa_nil rfl)))) pss_nil))))
      (@pss_cons _ _ _ _ _ (ps_for own_def rfl (pi_list (pe_slice sl_list (pv 0) (po_some pe_int) (po_some pe_int))) (pg_name (i := 8) sc_law.nd rfl (by first | exact Or.inl rfl | exact Or.inr rfl))
      (@pss_cons _ _ _ _ _ (@ps_set _ _ 9 _ _ _ _ sc_law.nd rfl (by first | exact Or.inl rfl | exact Or.inr rfl) (pe_fn h__law_mixed (hr.mono (by decide)) (by rfl) pass_def (@pa_cn _ _ _ _ _ (pv 8) pa_nil rfl)) (by rfl) (by first | exact Or.inl rfl | exact Or.inr rfl))
      (@pss_cons _ _ _ _ _ (@ps_set _ _ 10 _ _ _ _ sc_law.nd rfl (by first | exact Or.inl rfl | exact Or.inr rfl) (pe_fn h__law_told (hr.mono (by decide)) (by rfl) pass_def (@pa_cn _ _ _ _ _ (pv 4) pa_nil rfl)) (by rfl) (by first | exact Or.inl rfl | exact Or.inr rfl))
      (@pss_cons _ _ _ _ _ (ps_asg (pe_fn h__law_arguments (hr.mono (by decide)) (by rfl) pass_def (@pa_cn _ _ _ _ _ (pv 4) (@pa_cn _ _ _ _ _ (pe_op op_mod (pv 9) pe_int) (@pa_cn _ _ _ _ _ (pv 3) (@pa_cn _ _ _ _ _ (pe_op op_fdiv (pv 9) pe_int) pa_nil rfl) rfl) rfl) rfl)) (pg_tup (n := 2) rfl (pgs_cons (pg_name (i := 11) sc_law.nd rfl (by first | exact Or.inl rfl | exact Or.inr rfl)) (pgs_cons (pg_name (i := 12) sc_law.nd rfl (by first | exact Or.inl rfl | exact Or.inr rfl)) pgs_nil))))
      (@pss_one _ _ _ (ps_if (PW.pt (pw_or (pt_cmpR (op_neD hr.units) (pe_fn h__law_found (hr.mono (by decide)) (by rfl) pass_def (@pa_cn _ _ _ _ _ (pv 4) (@pa_cn _ _ _ _ _ (pe_op op_mod (pv 9) pe_int) (@pa_cn _ _ _ _ _ (pv 11) pa_nil rfl) rfl) rfl)) (pv 12) (nomark _)) (pw_or1 (pt_cmpR (op_neD hr.units) (pe_fn h__law_told (hr.mono (by decide)) (by rfl) pass_def (@pa_cn _ _ _ _ _ (pv 4) pa_nil rfl)) (pv 10) (nomark _))))) (@pss_one _ _ _ (@ps_ret _ _ _ _ pe_bl)) pss_nil))))))
      (@pss_one _ _ _ (@ps_ret _ _ _ _ (pe_fn h__law_others (hr.mono (by decide)) (by rfl) pass_def (@pa_cn _ _ _ _ _ (pv 4) (@pa_cn _ _ _ _ _ (pv 3) (@pa_cn _ _ _ _ _ (pe_fn h__law_cell_at (hr.mono (by decide)) (by rfl) pass_def (@pa_cn _ _ _ _ _ (pv 0) (@pa_cn _ _ _ _ _ pe_int pa_nil rfl) rfl)) pa_nil rfl) rfl) rfl)))))))))), ?_⟩
  walk_at "go"
  dsimp only
  obtain ⟨n, en⟩ : ∃ n : Nat, 1 + ss.getD (0 : Int).toNat 0 % 3 = (n : Int) := ⟨(1 + ss.getD (0 : Int).toNat 0 % 3).toNat, by omega⟩
  obtain ⟨m, em⟩ : ∃ m : Nat, ss.getD (0 : Int).toNat 0 / 3 % 4 = (m : Int) := ⟨(ss.getD (0 : Int).toNat 0 / 3 % 4).toNat, by omega⟩
  have n1 : 1 ≤ (n : Int) := by omega
  have n3 : (n : Int) ≤ 3 := by omega
  have m3 : (m : Int) ≤ 3 := by omega
  rw [en, em]
  have z2 := Int.emod_nonneg (ss.getD (1 : Int).toNat 0) (show (4 : Int) ≠ 0 by decide)
  have z3 := Int.emod_lt_of_pos (ss.getD (1 : Int).toNat 0) (show (0 : Int) < 4 by decide)
  generalize ss.getD (1 : Int).toNat 0 % 4 = sz' at z2 z3
  have sb : (1 ≤ 1 + sz' ∧ 1 + sz' ≤ 64) ∧ (1 ≤ (n : Int) ∧ (n : Int) ≤ 64) ∧ (0 ≤ (m : Int) ∧ (m : Int) ≤ 64) := by omega
  have sz4 : 1 + sz' ≤ 4 := by omega
  generalize hsz : 1 + sz' = sz at sb sz4
  refine fun x dx hx hdx ne => ⟨x, dx, (n : Int), (m : Int), sz, rfl, upd_same, fun _ H1 fp P1 fr1 nw1 => ⟨rfl, ?_⟩, fun z => absurd sb z⟩
  rw [Int.toNat_natCast, Int.toNat_natCast] at P1
  have s1 := made_same hx hdx fr1
  have nf1 : ∀ b ∈ fp, H b = none := fun b hb => by
    rcases nw1 b hb with q | q
    · rw [q]; exact hx
    · cases e : H b with
      | none => rfl
      | some u => rw [upd_ne (ne_of_none e hx), upd_ne (ne_of_none e hdx), e] at q; cases q
  have S1 := s1.seq hS
  have pos : (0 : Int) < (n : Int) + (m : Int) := by omega
  have r0 := Int.emod_nonneg (ss.getD (2 : Int).toNat 0) (show (n : Int) + (m : Int) ≠ 0 by omega)
  have r1 := Int.emod_lt_of_pos (ss.getD (2 : Int).toNat 0) pos
  have lo62 : -2 ^ 62 ≤ 1 + ss.getD (2 : Int).toNat 0 % ((n : Int) + (m : Int)) := by omega
  have hi62 : 1 + ss.getD (2 : Int).toNat 0 % ((n : Int) + (m : Int)) < 2 ^ 62 := by omega
  walk_at "go"
  refine for_range (fun i σ H' => Bx (∃ (v5 v6 v7 : Option V) (R S : Rooms) (bs : List Bool) (st : Nat) (fp : List Addr), σ = [some (.ref sc), some (.int n), some (.int m), some (.int sz), some (.ref x), v5, v6, v7, none, none, none, none, none] ∧ PlAt a H' x sz R S bs st fp ∧ Same H H' ∧ (∀ b ∈ fp, H b = none) ∧ R.cs.count 0 + S.cs.count 0 + i = n + m ∧ (0 < i → ∃ u, Used R u))) ?_ ?_ ?_
  · exact ⟨_, _, _, _, _, _, _, _, rfl, P1, s1, nf1, by rw [fresh_count, fresh_count]; rfl, fun z => absurd z (by decide)⟩
  · rintro i σ H2 hi ⟨v5, v6, v7, R, S, bs, st, fp, rfl, P2, s2, nf2, cnt, us⟩
    have sn : sz.toNat < sizeLine := by rw [sizeLine_eq]; omega
    obtain ⟨dx2, f1', g, h, f2', f3', f4', P', _⟩ := id P2
    have hp2 := P'.ob
    have t1 := T.cl_Pool
    walk_at "go"
    intro w hw
    refine comp_range hw (fun j => .int ((0 + (i : Int) + 1) * (0 + (j : Int) + 7))) (fun _ => true) sn (fun j ys hj R r => r) (fun j ys hj _ R r => ?_) ?_
    · have cm : CMul (0 + (i : Int) + 1) (0 + (j : Int) + 7) := .inr ⟨by omega, by omega⟩
      walk_at "go"
      exact r
    · have e : ((List.range sz.toNat).filter fun _ => true).map (fun j : Nat => V.int ((0 + (i : Int) + 1) * (0 + (j : Int) + 7))) = ((List.range sz.toNat).map fun j : Nat => (0 + (i : Int) + 1) * (0 + (j : Int) + 7)).map V.int := by
        rw [filter_tt, List.map_map]
        rfl
      rw [e]
      have okw : OkW sz ((List.range sz.toNat).map fun j : Nat => (0 + (i : Int) + 1) * (0 + (j : Int) + 7)) := by
        refine ⟨by rw [List.length_map, List.length_range]; omega, fun v hv => ?_⟩
        obtain ⟨j, hj, rfl⟩ := List.mem_map.mp hv
        have hj := List.mem_range.mp hj
        refine ⟨Int.mul_nonneg (by omega) (by omega), ?_⟩
        have : (0 + (i : Int) + 1) * (0 + (j : Int) + 7) ≤ 10 * 20 := Int.mul_le_mul (by omega) (by omega) (by omega) (by omega)
        exact Int.lt_of_le_of_lt this (by decide)
      generalize ((List.range sz.toNat).map fun j : Nat => (0 + (i : Int) + 1) * (0 + (j : Int) + 7)) = ws at okw
      generalize hh : upd _ w _ = H3
      obtain ⟨s3, e3⟩ := newO hw hh
      clear hh
      have P3 := P2.same s3
      have hp3 := s3 _ _ hp2
      have nw : w ∉ fp := fun z => by obtain ⟨u, e⟩ := P2.live w z; rw [hw] at e; cases e
      have rm : 0 ∈ R.cs ∨ 0 ∈ S.cs := by
        by_cases c : 0 ∈ R.cs
        · exact .inl c
        · by_cases d : 0 ∈ S.cs
          · exact .inr d
          · have c1 := List.count_eq_zero.mpr c
            have c2 := List.count_eq_zero.mpr d
            omega
      walk_at "go"
      refine ⟨fun _ _ T' l ts fp' H4 hT M P4 fr nT nl nts ap sub => ?_, fun _ z => absurd rm z, fun z => absurd okw z⟩
      obtain ⟨mc, mu⟩ := made_count (ws := ws) P'.ln (by obtain ⟨_, _, q⟩ := P'.s3; exact q.lt) rm
      have s4 : Same H H4 := fun b u e => fr.1 b u (s3 _ _ (s2 _ _ e)) fun z => by rw [nf2 b z] at e; cases e
      have nf4 : ∀ b ∈ fp', H b = none := fun b hb => by
        rcases fr.2 b hb with q | q
        · exact nf2 b q
        · cases e : H b with
          | none => rfl
          | some u => rw [s3 _ _ (s2 _ _ e)] at q; cases q
      obtain ⟨dx4, _, _, _, _, _, _, P4', _⟩ := id P4
      have hp4 := P4'.ob
      walk_at "go"
      refine iteI (fun z => ?_) (fun z => ?_)
      · walk_at "go"
        refine fun y dy hy hdy ne => ⟨y, dy, 0, (idx0 (outR R S bs st) : Int), rfl, upd_same, fun _ => ⟨rfl, ?_⟩, fun z => absurd ⟨by decide, by decide⟩ z⟩
        generalize hh : upd (upd (upd _ dy _) y _) y _ = H5
        obtain ⟨s5, e5⟩ := newI hy hdy hh
        clear hh
        have lf : LfAt a H5 y (.held 0 (idx0 (outR R S bs st) : Int)) := ⟨dy, e5⟩
        have P5 := P4.same s5
        obtain ⟨dx5, _, _, _, _, _, _, P5', _⟩ := id P5
        have hp5 := P5'.ob
        have nn := P5'.w1.nn
        have ny : y ∉ fp' := fun z => by obtain ⟨u, e⟩ := P4.live y z; rw [hy] at e; cases e
        walk_at "go"
        refine ⟨⟨fun r f e => ?_, fun r f e => (by cases e)⟩, fun z => (by rcases z with z | z <;> cases z)⟩
        cases e
        refine ⟨fun _ H6 P6 fr6 => ?_, fun z => absurd mu z⟩
        obtain ⟨mc2, mu2⟩ := more_count mu nn
        walk_at "go"
        refine ⟨_, _, _, _, _, _, _, _, rfl, P6, fun b u e => fr6.1 b u (s5 _ _ (s4 _ _ e)) (fun z => by rw [nf4 b z] at e; cases e), nf4, by omega, fun _ => ⟨_, mu2⟩⟩
      · walk_at "go"
        exact ⟨_, _, _, _, _, _, _, _, rfl, P4, s4, nf4, by omega, fun _ => ⟨_, mu⟩⟩
  · rintro σ H2 ⟨v5, v6, v7, R, S, bs, st, fp, rfl, P2, s2, nf2, cnt, us⟩
    have used := us (by omega)
    have S2 := s2.seq hS
    obtain ⟨ms, ems, lms⟩ := cut_ints ss (some 3) (some 63)
    walk_at "go"
    intro sl hsl
    rw [ems]
    generalize hh : upd _ sl _ = H3
    obtain ⟨s3, e3⟩ := newO hsl hh
    clear hh
    have P3 := P2.same s3
    walk_at "go"
    refine for_list (xs := ms.map V.int) (fun i σ H' => Bx (∃ (v8 v9 v10 v11 v12 : Option V), σ = [some (.ref sc), some (.int n), some (.int m), some (.int sz), some (.ref x), v5, v6, v7, v8, v9, v10, v11, v12] ∧ Same H3 H')) ⟨_, _, _, _, _, rfl, .refl _⟩ (fun i σ H' _ z => ?_) ?_ ?_
    · obtain ⟨v8, v9, v10, v11, v12, _, s⟩ := z
      exact SqL.of (s _ _ e3)
    · rintro i v σ H4 hi ⟨v8, v9, v10, v11, v12, rfl, s4⟩
      obtain ⟨c0, rfl, _⟩ := mem_ints hi
      have P4 := P3.same s4
      walk_at "go"
      intro c
      have w0 := Int.emod_nonneg c (show (9 : Int) ≠ 0 by decide)
      have w9 := Int.emod_lt_of_pos c (show (0 : Int) < 9 by decide)
      walk_at "go"
      intro q5 H5 T5 s5
      have P5 := P4.same s5
      walk_at "go"
      intro T' da dl kvs i' H6 hT hda i4 hdl ag s6
      have P6 := P5.same s6
      walk_at "go"
      intro qf H7 hqf s7
      have P7 := P6.same s7
      have hdl7 := s7 _ _ hdl
      walk_at "go"
      refine rNeD_self (nm_dat hqf) (nm_dat hdl7) (nm_tid i') ?_
      walk_at "go"
      intro q8 H8 T8 s8
      have T58 := T5.same ((s6.trans s7).trans s8)
      walk_at "go"
      refine rNeD_self T8.dat T58.dat (told_tid R S bs) ?_
      walk_at "go"
      exact ⟨_, _, _, _, _, rfl, (((s4.trans s5).trans s6).trans s7).trans s8⟩
    · rintro σ H4 ⟨v8, v9, v10, v11, v12, rfl, s4⟩
      have P4 := P3.same s4
      have S4 := (s3.trans s4).seq S2
      walk_at "go"
      exact k
end
end K30

set_option maxHeartbeats 4000000
namespace K30
open PySem L2
theorem all_mk {l : PySem.W.OpenLaw} {w : World} {K : PySem.W.Frag} {h : Heap} {mg : Str → Option Value} {fa c_LeafError c_NoShape c_NoAddress c_NoNumber c_Full c_NoWord c_NoRights c_Hand c_Leaf c_Fresh c_Held c_Out c_Named c_Counts c_Store c_Pool f1 f2 f3 f4 f5 f6 f7 dT7 f8 f9 f10 f11 f12 f13 f14 f15 f16 f17 dT17 f18 f19 f20 f21 f22 f23 f24 f25 f26 f27 f28 f29 f30 f31 f32 f33 f34 f35 f36 f37 f38 f39 f40 f41 f42 f43 f44 f45 f46 f47 f48 f49 f50 f51 f52 f53 f54 f55 f56 f57 f58 f59 f60 f61 f62 : Addr} (X : K.In h) (G : h.Ns mainGlobals mg) (hfa : mg "law" = some (.ref fa))
    {od1 an1 : Option Addr} {sl1 : Array (Option Value)} {oc1 kV1 dc1 pm1 cd1 ct1 : Value}
    {od2 an2 : Option Addr} {sl2 : Array (Option Value)} {oc2 kV2 dc2 pm2 cd2 ct2 : Value}
    {od3 an3 : Option Addr} {sl3 : Array (Option Value)} {oc3 kV3 dc3 pm3 cd3 ct3 : Value}
    {od4 an4 : Option Addr} {sl4 : Array (Option Value)} {oc4 kV4 dc4 pm4 cd4 ct4 : Value}
    {od5 an5 : Option Addr} {sl5 : Array (Option Value)} {oc5 kV5 dc5 pm5 cd5 ct5 : Value}
    {od6 an6 : Option Addr} {sl6 : Array (Option Value)} {oc6 kV6 dc6 pm6 cd6 ct6 : Value}
    {od7 an7 : Option Addr} {sl7 : Array (Option Value)} {oc7 kV7 dc7 pm7 cd7 ct7 : Value}
    {dtc7 : Value} {dtd7 : Option Addr} {dtn7 : Nat} {dtsl7 : Array (Option Value)} {tk7_0 : Tok}
    {od8 an8 : Option Addr} {sl8 : Array (Option Value)} {oc8 kV8 dc8 pm8 cd8 ct8 : Value}
    {od9 an9 : Option Addr} {sl9 : Array (Option Value)} {oc9 kV9 dc9 pm9 cd9 ct9 : Value}
    {od10 an10 : Option Addr} {sl10 : Array (Option Value)} {oc10 kV10 dc10 pm10 cd10 ct10 : Value}
    {od11 an11 : Option Addr} {sl11 : Array (Option Value)} {oc11 kV11 dc11 pm11 cd11 ct11 : Value}
    {od12 an12 : Option Addr} {sl12 : Array (Option Value)} {oc12 kV12 dc12 pm12 cd12 ct12 : Value}
    {od13 an13 : Option Addr} {sl13 : Array (Option Value)} {oc13 kV13 dc13 pm13 cd13 ct13 : Value}
    {od14 an14 : Option Addr} {sl14 : Array (Option Value)} {oc14 kV14 dc14 pm14 cd14 ct14 : Value}
    {od15 an15 : Option Addr} {sl15 : Array (Option Value)} {oc15 kV15 dc15 pm15 cd15 ct15 : Value}
    {od16 an16 : Option Addr} {sl16 : Array (Option Value)} {oc16 kV16 dc16 pm16 cd16 ct16 : Value}
    {od17 an17 : Option Addr} {sl17 : Array (Option Value)} {oc17 kV17 dc17 pm17 cd17 ct17 : Value}
    {dtc17 : Value} {dtd17 : Option Addr} {dtn17 : Nat} {dtsl17 : Array (Option Value)} {tk17_0 : Tok}
    {od18 an18 : Option Addr} {sl18 : Array (Option Value)} {oc18 kV18 dc18 pm18 cd18 ct18 : Value}
    {od19 an19 : Option Addr} {sl19 : Array (Option Value)} {oc19 kV19 dc19 pm19 cd19 ct19 : Value}
    {od20 an20 : Option Addr} {sl20 : Array (Option Value)} {oc20 kV20 dc20 pm20 cd20 ct20 : Value}
    {od21 an21 : Option Addr} {sl21 : Array (Option Value)} {oc21 kV21 dc21 pm21 cd21 ct21 : Value}
    {od22 an22 : Option Addr} {sl22 : Array (Option Value)} {oc22 kV22 dc22 pm22 cd22 ct22 : Value}
    {od23 an23 : Option Addr} {sl23 : Array (Option Value)} {oc23 kV23 dc23 pm23 cd23 ct23 : Value}
    {od24 an24 : Option Addr} {sl24 : Array (Option Value)} {oc24 kV24 dc24 pm24 cd24 ct24 : Value}
    {od25 an25 : Option Addr} {sl25 : Array (Option Value)} {oc25 kV25 dc25 pm25 cd25 ct25 : Value}
    {od26 an26 : Option Addr} {sl26 : Array (Option Value)} {oc26 kV26 dc26 pm26 cd26 ct26 : Value}
    {od27 an27 : Option Addr} {sl27 : Array (Option Value)} {oc27 kV27 dc27 pm27 cd27 ct27 : Value}
    {od28 an28 : Option Addr} {sl28 : Array (Option Value)} {oc28 kV28 dc28 pm28 cd28 ct28 : Value}
    {od29 an29 : Option Addr} {sl29 : Array (Option Value)} {oc29 kV29 dc29 pm29 cd29 ct29 : Value}
    {od30 an30 : Option Addr} {sl30 : Array (Option Value)} {oc30 kV30 dc30 pm30 cd30 ct30 : Value}
    {od31 an31 : Option Addr} {sl31 : Array (Option Value)} {oc31 kV31 dc31 pm31 cd31 ct31 : Value}
    {od32 an32 : Option Addr} {sl32 : Array (Option Value)} {oc32 kV32 dc32 pm32 cd32 ct32 : Value}
    {od33 an33 : Option Addr} {sl33 : Array (Option Value)} {oc33 kV33 dc33 pm33 cd33 ct33 : Value}
    {od34 an34 : Option Addr} {sl34 : Array (Option Value)} {oc34 kV34 dc34 pm34 cd34 ct34 : Value}
    {od35 an35 : Option Addr} {sl35 : Array (Option Value)} {oc35 kV35 dc35 pm35 cd35 ct35 : Value}
    {od36 an36 : Option Addr} {sl36 : Array (Option Value)} {oc36 kV36 dc36 pm36 cd36 ct36 : Value}
    {od37 an37 : Option Addr} {sl37 : Array (Option Value)} {oc37 kV37 dc37 pm37 cd37 ct37 : Value}
    {od38 an38 : Option Addr} {sl38 : Array (Option Value)} {oc38 kV38 dc38 pm38 cd38 ct38 : Value}
    {od39 an39 : Option Addr} {sl39 : Array (Option Value)} {oc39 kV39 dc39 pm39 cd39 ct39 : Value}
    {od40 an40 : Option Addr} {sl40 : Array (Option Value)} {oc40 kV40 dc40 pm40 cd40 ct40 : Value}
    {od41 an41 : Option Addr} {sl41 : Array (Option Value)} {oc41 kV41 dc41 pm41 cd41 ct41 : Value}
    {od42 an42 : Option Addr} {sl42 : Array (Option Value)} {oc42 kV42 dc42 pm42 cd42 ct42 : Value}
    {od43 an43 : Option Addr} {sl43 : Array (Option Value)} {oc43 kV43 dc43 pm43 cd43 ct43 : Value}
    {od44 an44 : Option Addr} {sl44 : Array (Option Value)} {oc44 kV44 dc44 pm44 cd44 ct44 : Value}
    {od45 an45 : Option Addr} {sl45 : Array (Option Value)} {oc45 kV45 dc45 pm45 cd45 ct45 : Value}
    {od46 an46 : Option Addr} {sl46 : Array (Option Value)} {oc46 kV46 dc46 pm46 cd46 ct46 : Value}
    {od47 an47 : Option Addr} {sl47 : Array (Option Value)} {oc47 kV47 dc47 pm47 cd47 ct47 : Value}
    {od48 an48 : Option Addr} {sl48 : Array (Option Value)} {oc48 kV48 dc48 pm48 cd48 ct48 : Value}
    {od49 an49 : Option Addr} {sl49 : Array (Option Value)} {oc49 kV49 dc49 pm49 cd49 ct49 : Value}
    {od50 an50 : Option Addr} {sl50 : Array (Option Value)} {oc50 kV50 dc50 pm50 cd50 ct50 : Value}
    {od51 an51 : Option Addr} {sl51 : Array (Option Value)} {oc51 kV51 dc51 pm51 cd51 ct51 : Value}
    {od52 an52 : Option Addr} {sl52 : Array (Option Value)} {oc52 kV52 dc52 pm52 cd52 ct52 : Value}
    {od53 an53 : Option Addr} {sl53 : Array (Option Value)} {oc53 kV53 dc53 pm53 cd53 ct53 : Value}
    {od54 an54 : Option Addr} {sl54 : Array (Option Value)} {oc54 kV54 dc54 pm54 cd54 ct54 : Value}
    {od55 an55 : Option Addr} {sl55 : Array (Option Value)} {oc55 kV55 dc55 pm55 cd55 ct55 : Value}
    {od56 an56 : Option Addr} {sl56 : Array (Option Value)} {oc56 kV56 dc56 pm56 cd56 ct56 : Value}
    {od57 an57 : Option Addr} {sl57 : Array (Option Value)} {oc57 kV57 dc57 pm57 cd57 ct57 : Value}
    {od58 an58 : Option Addr} {sl58 : Array (Option Value)} {oc58 kV58 dc58 pm58 cd58 ct58 : Value}
    {od59 an59 : Option Addr} {sl59 : Array (Option Value)} {oc59 kV59 dc59 pm59 cd59 ct59 : Value}
    {od60 an60 : Option Addr} {sl60 : Array (Option Value)} {oc60 kV60 dc60 pm60 cd60 ct60 : Value}
    {od61 an61 : Option Addr} {sl61 : Array (Option Value)} {oc61 kV61 dc61 pm61 cd61 ct61 : Value}
    {od62 an62 : Option Addr} {sl62 : Array (Option Value)} {oc62 kV62 dc62 pm62 cd62 ct62 : Value}
    {tkc_MOST_FRAMES tkc_MOST_NUMBERS tkc_MOST_WORDS : Tok}
    (a_c_LeafError : PySem.W.nsIn K mainGlobals "LeafError" = some (some (.ref c_LeafError)))
    (a_c_NoShape : PySem.W.nsIn K mainGlobals "NoShape" = some (some (.ref c_NoShape)))
    (a_c_NoAddress : PySem.W.nsIn K mainGlobals "NoAddress" = some (some (.ref c_NoAddress)))
    (a_c_NoNumber : PySem.W.nsIn K mainGlobals "NoNumber" = some (some (.ref c_NoNumber)))
    (a_c_Full : PySem.W.nsIn K mainGlobals "Full" = some (some (.ref c_Full)))
    (a_c_NoWord : PySem.W.nsIn K mainGlobals "NoWord" = some (some (.ref c_NoWord)))
    (a_c_NoRights : PySem.W.nsIn K mainGlobals "NoRights" = some (some (.ref c_NoRights)))
    (a_c_Hand : PySem.W.nsIn K mainGlobals "Hand" = some (some (.ref c_Hand)))
    (a_c_Leaf : PySem.W.nsIn K mainGlobals "Leaf" = some (some (.ref c_Leaf)))
    (a_c_Fresh : PySem.W.nsIn K mainGlobals "Fresh" = some (some (.ref c_Fresh)))
    (a_c_Held : PySem.W.nsIn K mainGlobals "Held" = some (some (.ref c_Held)))
    (a_c_Out : PySem.W.nsIn K mainGlobals "Out" = some (some (.ref c_Out)))
    (a_c_Named : PySem.W.nsIn K mainGlobals "Named" = some (some (.ref c_Named)))
    (a_c_Counts : PySem.W.nsIn K mainGlobals "Counts" = some (some (.ref c_Counts)))
    (a_c_Store : PySem.W.nsIn K mainGlobals "Store" = some (some (.ref c_Store)))
    (a_c_Pool : PySem.W.nsIn K mainGlobals "Pool" = some (some (.ref c_Pool)))
    (fi_Counts_of : PySem.W.findIn K (.ref c_Counts) "of" = some (some (.ref f1)))
    (fi_Counts_check_taken : PySem.W.findIn K (.ref c_Counts) "check_taken" = some (some (.ref f2)))
    (fi_Counts_free : PySem.W.findIn K (.ref c_Counts) "free" = some (some (.ref f5)))
    (fi_Counts___init__ : PySem.W.findIn K (.ref c_Counts) "__init__" = some (some (.ref f8)))
    (fi_Store_check_place : PySem.W.findIn K (.ref c_Store) "check_place" = some (some (.ref f13)))
    (fi_Store_check_words : PySem.W.findIn K (.ref c_Store) "check_words" = some (some (.ref f12)))
    (fi_Counts_taken : PySem.W.findIn K (.ref c_Counts) "taken" = some (some (.ref f7)))
    (fi_Counts_more : PySem.W.findIn K (.ref c_Counts) "more" = some (some (.ref f3)))
    (fi_Counts_less : PySem.W.findIn K (.ref c_Counts) "less" = some (some (.ref f4)))
    (fi_Counts_freed : PySem.W.findIn K (.ref c_Counts) "freed" = some (some (.ref f18)))
    (fi_Counts_told : PySem.W.findIn K (.ref c_Counts) "told" = some (some (.ref f6)))
    (fi_Hand_unmark : PySem.W.findIn K (.ref c_Hand) "unmark" = some (some (.ref f27)))
    (fi_Hand_go_on : PySem.W.findIn K (.ref c_Hand) "go_on" = some (some (.ref f28)))
    (fc_Leaf___init__ : PySem.W.findCls K (.ref c_Leaf) (.type "type") "__init__" = some (.val (.ref f32)))
    (rd_Leaf : PySem.W.readsIn K c_Leaf (.type "type") = true)
    (sg_Leaf : PySem.W.specialIn K (.ref c_Leaf) "__getattribute__" = some (some (.builtin "type.__getattribute__")))
    (fi_Store___init__ : PySem.W.findIn K (.ref c_Store) "__init__" = some (some (.ref f11)))
    (fi_Hand___init__ : PySem.W.findIn K (.ref c_Hand) "__init__" = some (some (.ref f25)))
    (fi_Store_free : PySem.W.findIn K (.ref c_Store) "free" = some (some (.ref f24)))
    (fi_Hand_chosen : PySem.W.findIn K (.ref c_Hand) "chosen" = some (some (.ref f29)))
    (fi_Store_gone : PySem.W.findIn K (.ref c_Store) "gone" = some (some (.ref f21)))
    (fi_Store_made : PySem.W.findIn K (.ref c_Store) "made" = some (some (.ref f17)))
    (fi_Hand_mark : PySem.W.findIn K (.ref c_Hand) "mark" = some (some (.ref f26)))
    (fi_Pool_room : PySem.W.findIn K (.ref c_Pool) "room" = some (some (.ref f37)))
    (fi_Pool_put_out : PySem.W.findIn K (.ref c_Pool) "put_out" = some (some (.ref f38)))
    (fi_Pool_brought_in : PySem.W.findIn K (.ref c_Pool) "brought_in" = some (some (.ref f39)))
    (fi_Store_word : PySem.W.findIn K (.ref c_Store) "word" = some (some (.ref f15)))
    (fi_Store_put : PySem.W.findIn K (.ref c_Store) "put" = some (some (.ref f16)))
    (fi_Store_words : PySem.W.findIn K (.ref c_Store) "words" = some (some (.ref f14)))
    (fi_Store_counts : PySem.W.findIn K (.ref c_Store) "counts" = some (some (.ref f23)))
    (fi_Hand_marks : PySem.W.findIn K (.ref c_Hand) "marks" = some (some (.ref f30)))
    (fi_Store_count : PySem.W.findIn K (.ref c_Store) "count" = some (some (.ref f22)))
    (fi_Store_more : PySem.W.findIn K (.ref c_Store) "more" = some (some (.ref f19)))
    (fi_Store_less : PySem.W.findIn K (.ref c_Store) "less" = some (some (.ref f20)))
    (fi_Pool_made : PySem.W.findIn K (.ref c_Pool) "made" = some (some (.ref f40)))
    (fi_Pool_word : PySem.W.findIn K (.ref c_Pool) "word" = some (some (.ref f41)))
    (fi_Pool_put : PySem.W.findIn K (.ref c_Pool) "put" = some (some (.ref f42)))
    (fi_Pool_fetched : PySem.W.findIn K (.ref c_Pool) "fetched" = some (some (.ref f50)))
    (fi_Pool_more : PySem.W.findIn K (.ref c_Pool) "more" = some (some (.ref f48)))
    (fi_Pool_less : PySem.W.findIn K (.ref c_Pool) "less" = some (some (.ref f49)))
    (fi_Pool_words : PySem.W.findIn K (.ref c_Pool) "words" = some (some (.ref f43)))
    (fi_Pool_count : PySem.W.findIn K (.ref c_Pool) "count" = some (some (.ref f47)))
    (fi_Pool___init__ : PySem.W.findIn K (.ref c_Pool) "__init__" = some (some (.ref f36)))
    (fi_Pool_marks : PySem.W.findIn K (.ref c_Pool) "marks" = some (some (.ref f46)))
    (fi_Pool_slots : PySem.W.findIn K (.ref c_Pool) "slots" = some (some (.ref f45)))
    (fi_Pool_frames : PySem.W.findIn K (.ref c_Pool) "frames" = some (some (.ref f44)))
    (fi_Held___init__ : PySem.W.findIn K (.ref c_Held) "__init__" = some (some (.ref f33)))
    (fi_Out___init__ : PySem.W.findIn K (.ref c_Out) "__init__" = some (some (.ref f34)))
    (fi_Named___init__ : PySem.W.findIn K (.ref c_Named) "__init__" = some (some (.ref f35)))
    (fi_Fresh___init__ : PySem.W.findIn K (.ref c_Fresh) "__init__" = some (some (.ref f32)))
    (l1 : K.lookup f1 = some ⟨oc1, od1, .func (PySem.W.fnOf "of" "Counts.of" (defArgs s_Counts_of) (defBody s_Counts_of) (defScope s_Counts_of) .none kV1 dc1 pm1 an1 cd1 ct1), sl1⟩)
    (c1 : PySem.W.codeIn K cd1 "Counts.of" = true)
    (k1 : PySem.W.keepIn K (.ref f1) = true)
    (i1 : PySem.W.isFn K (.ref f1) = true)
    (l2 : K.lookup f2 = some ⟨oc2, od2, .func (PySem.W.fnOf "check_taken" "Counts.check_taken" (defArgs s_Counts_check_taken) (defBody s_Counts_check_taken) (defScope s_Counts_check_taken) .none kV2 dc2 pm2 an2 cd2 ct2), sl2⟩)
    (c2 : PySem.W.codeIn K cd2 "Counts.check_taken" = true)
    (k2 : PySem.W.keepIn K (.ref f2) = true)
    (i2 : PySem.W.isFn K (.ref f2) = true)
    (l3 : K.lookup f3 = some ⟨oc3, od3, .func (PySem.W.fnOf "more" "Counts.more" (defArgs s_Counts_more) (defBody s_Counts_more) (defScope s_Counts_more) .none kV3 dc3 pm3 an3 cd3 ct3), sl3⟩)
    (c3 : PySem.W.codeIn K cd3 "Counts.more" = true)
    (k3 : PySem.W.keepIn K (.ref f3) = true)
    (i3 : PySem.W.isFn K (.ref f3) = true)
    (l4 : K.lookup f4 = some ⟨oc4, od4, .func (PySem.W.fnOf "less" "Counts.less" (defArgs s_Counts_less) (defBody s_Counts_less) (defScope s_Counts_less) .none kV4 dc4 pm4 an4 cd4 ct4), sl4⟩)
    (c4 : PySem.W.codeIn K cd4 "Counts.less" = true)
    (k4 : PySem.W.keepIn K (.ref f4) = true)
    (i4 : PySem.W.isFn K (.ref f4) = true)
    (l5 : K.lookup f5 = some ⟨oc5, od5, .func (PySem.W.fnOf "free" "Counts.free" (defArgs s_Counts_free) (defBody s_Counts_free) (defScope s_Counts_free) .none kV5 dc5 pm5 an5 cd5 ct5), sl5⟩)
    (c5 : PySem.W.codeIn K cd5 "Counts.free" = true)
    (k5 : PySem.W.keepIn K (.ref f5) = true)
    (i5 : PySem.W.isFn K (.ref f5) = true)
    (l6 : K.lookup f6 = some ⟨oc6, od6, .func (PySem.W.fnOf "told" "Counts.told" (defArgs s_Counts_told) (defBody s_Counts_told) (defScope s_Counts_told) .none kV6 dc6 pm6 an6 cd6 ct6), sl6⟩)
    (c6 : PySem.W.codeIn K cd6 "Counts.told" = true)
    (k6 : PySem.W.keepIn K (.ref f6) = true)
    (i6 : PySem.W.isFn K (.ref f6) = true)
    (l7 : K.lookup f7 = some ⟨oc7, od7, .func (PySem.W.fnOf "taken" "Counts.taken" (defArgs s_Counts_taken) (defBody s_Counts_taken) (defScope s_Counts_taken) (.ref dT7) kV7 dc7 pm7 an7 cd7 ct7), sl7⟩)
    (c7 : PySem.W.codeIn K cd7 "Counts.taken" = true)
    (k7 : PySem.W.keepIn K (.ref f7) = true)
    (i7 : PySem.W.isFn K (.ref f7) = true)
    (dt7 : K.lookup dT7 = some ⟨dtc7, dtd7, .seq #[.int 1 tk7_0] dtn7, dtsl7⟩)
    (l8 : K.lookup f8 = some ⟨oc8, od8, .func (PySem.W.fnOf "__init__" "Counts.__init__" (defArgs s_Counts___init__) (defBody s_Counts___init__) (defScope s_Counts___init__) .none kV8 dc8 pm8 an8 cd8 ct8), sl8⟩)
    (c8 : PySem.W.codeIn K cd8 "Counts.__init__" = true)
    (k8 : PySem.W.keepIn K (.ref f8) = true)
    (i8 : PySem.W.isFn K (.ref f8) = true)
    (a9 : PySem.W.nsIn K mainGlobals "is_word" = some (some (.ref f9)))
    (l9 : K.lookup f9 = some ⟨oc9, od9, .func (PySem.W.fnOf "is_word" "is_word" (defArgs s_is_word) (defBody s_is_word) (defScope s_is_word) .none kV9 dc9 pm9 an9 cd9 ct9), sl9⟩)
    (c9 : PySem.W.codeIn K cd9 "is_word" = true)
    (k9 : PySem.W.keepIn K (.ref f9) = true)
    (a10 : PySem.W.nsIn K mainGlobals "check_word" = some (some (.ref f10)))
    (l10 : K.lookup f10 = some ⟨oc10, od10, .func (PySem.W.fnOf "check_word" "check_word" (defArgs s_check_word) (defBody s_check_word) (defScope s_check_word) .none kV10 dc10 pm10 an10 cd10 ct10), sl10⟩)
    (c10 : PySem.W.codeIn K cd10 "check_word" = true)
    (k10 : PySem.W.keepIn K (.ref f10) = true)
    (l11 : K.lookup f11 = some ⟨oc11, od11, .func (PySem.W.fnOf "__init__" "Store.__init__" (defArgs s_Store___init__) (defBody s_Store___init__) (defScope s_Store___init__) .none kV11 dc11 pm11 an11 cd11 ct11), sl11⟩)
    (c11 : PySem.W.codeIn K cd11 "Store.__init__" = true)
    (k11 : PySem.W.keepIn K (.ref f11) = true)
    (i11 : PySem.W.isFn K (.ref f11) = true)
    (l12 : K.lookup f12 = some ⟨oc12, od12, .func (PySem.W.fnOf "check_words" "Store.check_words" (defArgs s_Store_check_words) (defBody s_Store_check_words) (defScope s_Store_check_words) .none kV12 dc12 pm12 an12 cd12 ct12), sl12⟩)
    (c12 : PySem.W.codeIn K cd12 "Store.check_words" = true)
    (k12 : PySem.W.keepIn K (.ref f12) = true)
    (i12 : PySem.W.isFn K (.ref f12) = true)
    (l13 : K.lookup f13 = some ⟨oc13, od13, .func (PySem.W.fnOf "check_place" "Store.check_place" (defArgs s_Store_check_place) (defBody s_Store_check_place) (defScope s_Store_check_place) .none kV13 dc13 pm13 an13 cd13 ct13), sl13⟩)
    (c13 : PySem.W.codeIn K cd13 "Store.check_place" = true)
    (k13 : PySem.W.keepIn K (.ref f13) = true)
    (i13 : PySem.W.isFn K (.ref f13) = true)
    (l14 : K.lookup f14 = some ⟨oc14, od14, .func (PySem.W.fnOf "words" "Store.words" (defArgs s_Store_words) (defBody s_Store_words) (defScope s_Store_words) .none kV14 dc14 pm14 an14 cd14 ct14), sl14⟩)
    (c14 : PySem.W.codeIn K cd14 "Store.words" = true)
    (k14 : PySem.W.keepIn K (.ref f14) = true)
    (i14 : PySem.W.isFn K (.ref f14) = true)
    (l15 : K.lookup f15 = some ⟨oc15, od15, .func (PySem.W.fnOf "word" "Store.word" (defArgs s_Store_word) (defBody s_Store_word) (defScope s_Store_word) .none kV15 dc15 pm15 an15 cd15 ct15), sl15⟩)
    (c15 : PySem.W.codeIn K cd15 "Store.word" = true)
    (k15 : PySem.W.keepIn K (.ref f15) = true)
    (i15 : PySem.W.isFn K (.ref f15) = true)
    (l16 : K.lookup f16 = some ⟨oc16, od16, .func (PySem.W.fnOf "put" "Store.put" (defArgs s_Store_put) (defBody s_Store_put) (defScope s_Store_put) .none kV16 dc16 pm16 an16 cd16 ct16), sl16⟩)
    (c16 : PySem.W.codeIn K cd16 "Store.put" = true)
    (k16 : PySem.W.keepIn K (.ref f16) = true)
    (i16 : PySem.W.isFn K (.ref f16) = true)
    (l17 : K.lookup f17 = some ⟨oc17, od17, .func (PySem.W.fnOf "made" "Store.made" (defArgs s_Store_made) (defBody s_Store_made) (defScope s_Store_made) (.ref dT17) kV17 dc17 pm17 an17 cd17 ct17), sl17⟩)
    (c17 : PySem.W.codeIn K cd17 "Store.made" = true)
    (k17 : PySem.W.keepIn K (.ref f17) = true)
    (i17 : PySem.W.isFn K (.ref f17) = true)
    (dt17 : K.lookup dT17 = some ⟨dtc17, dtd17, .seq #[.int 1 tk17_0] dtn17, dtsl17⟩)
    (l18 : K.lookup f18 = some ⟨oc18, od18, .func (PySem.W.fnOf "freed" "Counts.freed" (defArgs s_Counts_freed) (defBody s_Counts_freed) (defScope s_Counts_freed) .none kV18 dc18 pm18 an18 cd18 ct18), sl18⟩)
    (c18 : PySem.W.codeIn K cd18 "Counts.freed" = true)
    (k18 : PySem.W.keepIn K (.ref f18) = true)
    (i18 : PySem.W.isFn K (.ref f18) = true)
    (l19 : K.lookup f19 = some ⟨oc19, od19, .func (PySem.W.fnOf "more" "Store.more" (defArgs s_Store_more) (defBody s_Store_more) (defScope s_Store_more) .none kV19 dc19 pm19 an19 cd19 ct19), sl19⟩)
    (c19 : PySem.W.codeIn K cd19 "Store.more" = true)
    (k19 : PySem.W.keepIn K (.ref f19) = true)
    (i19 : PySem.W.isFn K (.ref f19) = true)
    (l20 : K.lookup f20 = some ⟨oc20, od20, .func (PySem.W.fnOf "less" "Store.less" (defArgs s_Store_less) (defBody s_Store_less) (defScope s_Store_less) .none kV20 dc20 pm20 an20 cd20 ct20), sl20⟩)
    (c20 : PySem.W.codeIn K cd20 "Store.less" = true)
    (k20 : PySem.W.keepIn K (.ref f20) = true)
    (i20 : PySem.W.isFn K (.ref f20) = true)
    (l21 : K.lookup f21 = some ⟨oc21, od21, .func (PySem.W.fnOf "gone" "Store.gone" (defArgs s_Store_gone) (defBody s_Store_gone) (defScope s_Store_gone) .none kV21 dc21 pm21 an21 cd21 ct21), sl21⟩)
    (c21 : PySem.W.codeIn K cd21 "Store.gone" = true)
    (k21 : PySem.W.keepIn K (.ref f21) = true)
    (i21 : PySem.W.isFn K (.ref f21) = true)
    (l22 : K.lookup f22 = some ⟨oc22, od22, .func (PySem.W.fnOf "count" "Store.count" (defArgs s_Store_count) (defBody s_Store_count) (defScope s_Store_count) .none kV22 dc22 pm22 an22 cd22 ct22), sl22⟩)
    (c22 : PySem.W.codeIn K cd22 "Store.count" = true)
    (k22 : PySem.W.keepIn K (.ref f22) = true)
    (i22 : PySem.W.isFn K (.ref f22) = true)
    (l23 : K.lookup f23 = some ⟨oc23, od23, .func (PySem.W.fnOf "counts" "Store.counts" (defArgs s_Store_counts) (defBody s_Store_counts) (defScope s_Store_counts) .none kV23 dc23 pm23 an23 cd23 ct23), sl23⟩)
    (c23 : PySem.W.codeIn K cd23 "Store.counts" = true)
    (k23 : PySem.W.keepIn K (.ref f23) = true)
    (i23 : PySem.W.isFn K (.ref f23) = true)
    (l24 : K.lookup f24 = some ⟨oc24, od24, .func (PySem.W.fnOf "free" "Store.free" (defArgs s_Store_free) (defBody s_Store_free) (defScope s_Store_free) .none kV24 dc24 pm24 an24 cd24 ct24), sl24⟩)
    (c24 : PySem.W.codeIn K cd24 "Store.free" = true)
    (k24 : PySem.W.keepIn K (.ref f24) = true)
    (i24 : PySem.W.isFn K (.ref f24) = true)
    (l25 : K.lookup f25 = some ⟨oc25, od25, .func (PySem.W.fnOf "__init__" "Hand.__init__" (defArgs s_Hand___init__) (defBody s_Hand___init__) (defScope s_Hand___init__) .none kV25 dc25 pm25 an25 cd25 ct25), sl25⟩)
    (c25 : PySem.W.codeIn K cd25 "Hand.__init__" = true)
    (k25 : PySem.W.keepIn K (.ref f25) = true)
    (i25 : PySem.W.isFn K (.ref f25) = true)
    (l26 : K.lookup f26 = some ⟨oc26, od26, .func (PySem.W.fnOf "mark" "Hand.mark" (defArgs s_Hand_mark) (defBody s_Hand_mark) (defScope s_Hand_mark) .none kV26 dc26 pm26 an26 cd26 ct26), sl26⟩)
    (c26 : PySem.W.codeIn K cd26 "Hand.mark" = true)
    (k26 : PySem.W.keepIn K (.ref f26) = true)
    (i26 : PySem.W.isFn K (.ref f26) = true)
    (l27 : K.lookup f27 = some ⟨oc27, od27, .func (PySem.W.fnOf "unmark" "Hand.unmark" (defArgs s_Hand_unmark) (defBody s_Hand_unmark) (defScope s_Hand_unmark) .none kV27 dc27 pm27 an27 cd27 ct27), sl27⟩)
    (c27 : PySem.W.codeIn K cd27 "Hand.unmark" = true)
    (k27 : PySem.W.keepIn K (.ref f27) = true)
    (i27 : PySem.W.isFn K (.ref f27) = true)
    (l28 : K.lookup f28 = some ⟨oc28, od28, .func (PySem.W.fnOf "go_on" "Hand.go_on" (defArgs s_Hand_go_on) (defBody s_Hand_go_on) (defScope s_Hand_go_on) .none kV28 dc28 pm28 an28 cd28 ct28), sl28⟩)
    (c28 : PySem.W.codeIn K cd28 "Hand.go_on" = true)
    (k28 : PySem.W.keepIn K (.ref f28) = true)
    (i28 : PySem.W.isFn K (.ref f28) = true)
    (l29 : K.lookup f29 = some ⟨oc29, od29, .func (PySem.W.fnOf "chosen" "Hand.chosen" (defArgs s_Hand_chosen) (defBody s_Hand_chosen) (defScope s_Hand_chosen) .none kV29 dc29 pm29 an29 cd29 ct29), sl29⟩)
    (c29 : PySem.W.codeIn K cd29 "Hand.chosen" = true)
    (k29 : PySem.W.keepIn K (.ref f29) = true)
    (i29 : PySem.W.isFn K (.ref f29) = true)
    (l30 : K.lookup f30 = some ⟨oc30, od30, .func (PySem.W.fnOf "marks" "Hand.marks" (defArgs s_Hand_marks) (defBody s_Hand_marks) (defScope s_Hand_marks) .none kV30 dc30 pm30 an30 cd30 ct30), sl30⟩)
    (c30 : PySem.W.codeIn K cd30 "Hand.marks" = true)
    (k30 : PySem.W.keepIn K (.ref f30) = true)
    (i30 : PySem.W.isFn K (.ref f30) = true)
    (a31 : PySem.W.nsIn K mainGlobals "check_rights" = some (some (.ref f31)))
    (l31 : K.lookup f31 = some ⟨oc31, od31, .func (PySem.W.fnOf "check_rights" "check_rights" (defArgs s_check_rights) (defBody s_check_rights) (defScope s_check_rights) .none kV31 dc31 pm31 an31 cd31 ct31), sl31⟩)
    (c31 : PySem.W.codeIn K cd31 "check_rights" = true)
    (k31 : PySem.W.keepIn K (.ref f31) = true)
    (l32 : K.lookup f32 = some ⟨oc32, od32, .func (PySem.W.fnOf "__init__" "Leaf.__init__" (defArgs s_Leaf___init__) (defBody s_Leaf___init__) (defScope s_Leaf___init__) .none kV32 dc32 pm32 an32 cd32 ct32), sl32⟩)
    (c32 : PySem.W.codeIn K cd32 "Leaf.__init__" = true)
    (k32 : PySem.W.keepIn K (.ref f32) = true)
    (i32 : PySem.W.isFn K (.ref f32) = true)
    (l33 : K.lookup f33 = some ⟨oc33, od33, .func (PySem.W.fnOf "__init__" "Held.__init__" (defArgs s_Held___init__) (defBody s_Held___init__) (defScope s_Held___init__) .none kV33 dc33 pm33 an33 cd33 ct33), sl33⟩)
    (c33 : PySem.W.codeIn K cd33 "Held.__init__" = true)
    (k33 : PySem.W.keepIn K (.ref f33) = true)
    (i33 : PySem.W.isFn K (.ref f33) = true)
    (l34 : K.lookup f34 = some ⟨oc34, od34, .func (PySem.W.fnOf "__init__" "Out.__init__" (defArgs s_Out___init__) (defBody s_Out___init__) (defScope s_Out___init__) .none kV34 dc34 pm34 an34 cd34 ct34), sl34⟩)
    (c34 : PySem.W.codeIn K cd34 "Out.__init__" = true)
    (k34 : PySem.W.keepIn K (.ref f34) = true)
    (i34 : PySem.W.isFn K (.ref f34) = true)
    (l35 : K.lookup f35 = some ⟨oc35, od35, .func (PySem.W.fnOf "__init__" "Named.__init__" (defArgs s_Named___init__) (defBody s_Named___init__) (defScope s_Named___init__) .none kV35 dc35 pm35 an35 cd35 ct35), sl35⟩)
    (c35 : PySem.W.codeIn K cd35 "Named.__init__" = true)
    (k35 : PySem.W.keepIn K (.ref f35) = true)
    (i35 : PySem.W.isFn K (.ref f35) = true)
    (l36 : K.lookup f36 = some ⟨oc36, od36, .func (PySem.W.fnOf "__init__" "Pool.__init__" (defArgs s_Pool___init__) (defBody s_Pool___init__) (defScope s_Pool___init__) .none kV36 dc36 pm36 an36 cd36 ct36), sl36⟩)
    (c36 : PySem.W.codeIn K cd36 "Pool.__init__" = true)
    (k36 : PySem.W.keepIn K (.ref f36) = true)
    (i36 : PySem.W.isFn K (.ref f36) = true)
    (l37 : K.lookup f37 = some ⟨oc37, od37, .func (PySem.W.fnOf "room" "Pool.room" (defArgs s_Pool_room) (defBody s_Pool_room) (defScope s_Pool_room) .none kV37 dc37 pm37 an37 cd37 ct37), sl37⟩)
    (c37 : PySem.W.codeIn K cd37 "Pool.room" = true)
    (k37 : PySem.W.keepIn K (.ref f37) = true)
    (i37 : PySem.W.isFn K (.ref f37) = true)
    (l38 : K.lookup f38 = some ⟨oc38, od38, .func (PySem.W.fnOf "put_out" "Pool.put_out" (defArgs s_Pool_put_out) (defBody s_Pool_put_out) (defScope s_Pool_put_out) .none kV38 dc38 pm38 an38 cd38 ct38), sl38⟩)
    (c38 : PySem.W.codeIn K cd38 "Pool.put_out" = true)
    (k38 : PySem.W.keepIn K (.ref f38) = true)
    (i38 : PySem.W.isFn K (.ref f38) = true)
    (l39 : K.lookup f39 = some ⟨oc39, od39, .func (PySem.W.fnOf "brought_in" "Pool.brought_in" (defArgs s_Pool_brought_in) (defBody s_Pool_brought_in) (defScope s_Pool_brought_in) .none kV39 dc39 pm39 an39 cd39 ct39), sl39⟩)
    (c39 : PySem.W.codeIn K cd39 "Pool.brought_in" = true)
    (k39 : PySem.W.keepIn K (.ref f39) = true)
    (i39 : PySem.W.isFn K (.ref f39) = true)
    (l40 : K.lookup f40 = some ⟨oc40, od40, .func (PySem.W.fnOf "made" "Pool.made" (defArgs s_Pool_made) (defBody s_Pool_made) (defScope s_Pool_made) .none kV40 dc40 pm40 an40 cd40 ct40), sl40⟩)
    (c40 : PySem.W.codeIn K cd40 "Pool.made" = true)
    (k40 : PySem.W.keepIn K (.ref f40) = true)
    (i40 : PySem.W.isFn K (.ref f40) = true)
    (l41 : K.lookup f41 = some ⟨oc41, od41, .func (PySem.W.fnOf "word" "Pool.word" (defArgs s_Pool_word) (defBody s_Pool_word) (defScope s_Pool_word) .none kV41 dc41 pm41 an41 cd41 ct41), sl41⟩)
    (c41 : PySem.W.codeIn K cd41 "Pool.word" = true)
    (k41 : PySem.W.keepIn K (.ref f41) = true)
    (i41 : PySem.W.isFn K (.ref f41) = true)
    (l42 : K.lookup f42 = some ⟨oc42, od42, .func (PySem.W.fnOf "put" "Pool.put" (defArgs s_Pool_put) (defBody s_Pool_put) (defScope s_Pool_put) .none kV42 dc42 pm42 an42 cd42 ct42), sl42⟩)
    (c42 : PySem.W.codeIn K cd42 "Pool.put" = true)
    (k42 : PySem.W.keepIn K (.ref f42) = true)
    (i42 : PySem.W.isFn K (.ref f42) = true)
    (l43 : K.lookup f43 = some ⟨oc43, od43, .func (PySem.W.fnOf "words" "Pool.words" (defArgs s_Pool_words) (defBody s_Pool_words) (defScope s_Pool_words) .none kV43 dc43 pm43 an43 cd43 ct43), sl43⟩)
    (c43 : PySem.W.codeIn K cd43 "Pool.words" = true)
    (k43 : PySem.W.keepIn K (.ref f43) = true)
    (i43 : PySem.W.isFn K (.ref f43) = true)
    (l44 : K.lookup f44 = some ⟨oc44, od44, .func (PySem.W.fnOf "frames" "Pool.frames" (defArgs s_Pool_frames) (defBody s_Pool_frames) (defScope s_Pool_frames) .none kV44 dc44 pm44 an44 cd44 ct44), sl44⟩)
    (c44 : PySem.W.codeIn K cd44 "Pool.frames" = true)
    (k44 : PySem.W.keepIn K (.ref f44) = true)
    (i44 : PySem.W.isFn K (.ref f44) = true)
    (l45 : K.lookup f45 = some ⟨oc45, od45, .func (PySem.W.fnOf "slots" "Pool.slots" (defArgs s_Pool_slots) (defBody s_Pool_slots) (defScope s_Pool_slots) .none kV45 dc45 pm45 an45 cd45 ct45), sl45⟩)
    (c45 : PySem.W.codeIn K cd45 "Pool.slots" = true)
    (k45 : PySem.W.keepIn K (.ref f45) = true)
    (i45 : PySem.W.isFn K (.ref f45) = true)
    (l46 : K.lookup f46 = some ⟨oc46, od46, .func (PySem.W.fnOf "marks" "Pool.marks" (defArgs s_Pool_marks) (defBody s_Pool_marks) (defScope s_Pool_marks) .none kV46 dc46 pm46 an46 cd46 ct46), sl46⟩)
    (c46 : PySem.W.codeIn K cd46 "Pool.marks" = true)
    (k46 : PySem.W.keepIn K (.ref f46) = true)
    (i46 : PySem.W.isFn K (.ref f46) = true)
    (l47 : K.lookup f47 = some ⟨oc47, od47, .func (PySem.W.fnOf "count" "Pool.count" (defArgs s_Pool_count) (defBody s_Pool_count) (defScope s_Pool_count) .none kV47 dc47 pm47 an47 cd47 ct47), sl47⟩)
    (c47 : PySem.W.codeIn K cd47 "Pool.count" = true)
    (k47 : PySem.W.keepIn K (.ref f47) = true)
    (i47 : PySem.W.isFn K (.ref f47) = true)
    (l48 : K.lookup f48 = some ⟨oc48, od48, .func (PySem.W.fnOf "more" "Pool.more" (defArgs s_Pool_more) (defBody s_Pool_more) (defScope s_Pool_more) .none kV48 dc48 pm48 an48 cd48 ct48), sl48⟩)
    (c48 : PySem.W.codeIn K cd48 "Pool.more" = true)
    (k48 : PySem.W.keepIn K (.ref f48) = true)
    (i48 : PySem.W.isFn K (.ref f48) = true)
    (l49 : K.lookup f49 = some ⟨oc49, od49, .func (PySem.W.fnOf "less" "Pool.less" (defArgs s_Pool_less) (defBody s_Pool_less) (defScope s_Pool_less) .none kV49 dc49 pm49 an49 cd49 ct49), sl49⟩)
    (c49 : PySem.W.codeIn K cd49 "Pool.less" = true)
    (k49 : PySem.W.keepIn K (.ref f49) = true)
    (i49 : PySem.W.isFn K (.ref f49) = true)
    (l50 : K.lookup f50 = some ⟨oc50, od50, .func (PySem.W.fnOf "fetched" "Pool.fetched" (defArgs s_Pool_fetched) (defBody s_Pool_fetched) (defScope s_Pool_fetched) .none kV50 dc50 pm50 an50 cd50 ct50), sl50⟩)
    (c50 : PySem.W.codeIn K cd50 "Pool.fetched" = true)
    (k50 : PySem.W.keepIn K (.ref f50) = true)
    (i50 : PySem.W.isFn K (.ref f50) = true)
    (a51 : PySem.W.nsIn K mainGlobals "_law_kinds" = some (some (.ref f51)))
    (l51 : K.lookup f51 = some ⟨oc51, od51, .func (PySem.W.fnOf "_law_kinds" "_law_kinds" (defArgs s__law_kinds) (defBody s__law_kinds) (defScope s__law_kinds) .none kV51 dc51 pm51 an51 cd51 ct51), sl51⟩)
    (c51 : PySem.W.codeIn K cd51 "_law_kinds" = true)
    (k51 : PySem.W.keepIn K (.ref f51) = true)
    (a52 : PySem.W.nsIn K mainGlobals "_law_called" = some (some (.ref f52)))
    (l52 : K.lookup f52 = some ⟨oc52, od52, .func (PySem.W.fnOf "_law_called" "_law_called" (defArgs s__law_called) (defBody s__law_called) (defScope s__law_called) .none kV52 dc52 pm52 an52 cd52 ct52), sl52⟩)
    (c52 : PySem.W.codeIn K cd52 "_law_called" = true)
    (k52 : PySem.W.keepIn K (.ref f52) = true)
    (a53 : PySem.W.nsIn K mainGlobals "_law_found" = some (some (.ref f53)))
    (l53 : K.lookup f53 = some ⟨oc53, od53, .func (PySem.W.fnOf "_law_found" "_law_found" (defArgs s__law_found) (defBody s__law_found) (defScope s__law_found) .none kV53 dc53 pm53 an53 cd53 ct53), sl53⟩)
    (c53 : PySem.W.codeIn K cd53 "_law_found" = true)
    (k53 : PySem.W.keepIn K (.ref f53) = true)
    (a54 : PySem.W.nsIn K mainGlobals "_law_mixed" = some (some (.ref f54)))
    (l54 : K.lookup f54 = some ⟨oc54, od54, .func (PySem.W.fnOf "_law_mixed" "_law_mixed" (defArgs s__law_mixed) (defBody s__law_mixed) (defScope s__law_mixed) .none kV54 dc54 pm54 an54 cd54 ct54), sl54⟩)
    (c54 : PySem.W.codeIn K cd54 "_law_mixed" = true)
    (k54 : PySem.W.keepIn K (.ref f54) = true)
    (a55 : PySem.W.nsIn K mainGlobals "_law_none" = some (some (.ref f55)))
    (l55 : K.lookup f55 = some ⟨oc55, od55, .func (PySem.W.fnOf "_law_none" "_law_none" (defArgs s__law_none) (defBody s__law_none) (defScope s__law_none) .none kV55 dc55 pm55 an55 cd55 ct55), sl55⟩)
    (c55 : PySem.W.codeIn K cd55 "_law_none" = true)
    (k55 : PySem.W.keepIn K (.ref f55) = true)
    (a56 : PySem.W.nsIn K mainGlobals "_law_sizes" = some (some (.ref f56)))
    (l56 : K.lookup f56 = some ⟨oc56, od56, .func (PySem.W.fnOf "_law_sizes" "_law_sizes" (defArgs s__law_sizes) (defBody s__law_sizes) (defScope s__law_sizes) .none kV56 dc56 pm56 an56 cd56 ct56), sl56⟩)
    (c56 : PySem.W.codeIn K cd56 "_law_sizes" = true)
    (k56 : PySem.W.keepIn K (.ref f56) = true)
    (a57 : PySem.W.nsIn K mainGlobals "_law_bad_words" = some (some (.ref f57)))
    (l57 : K.lookup f57 = some ⟨oc57, od57, .func (PySem.W.fnOf "_law_bad_words" "_law_bad_words" (defArgs s__law_bad_words) (defBody s__law_bad_words) (defScope s__law_bad_words) .none kV57 dc57 pm57 an57 cd57 ct57), sl57⟩)
    (c57 : PySem.W.codeIn K cd57 "_law_bad_words" = true)
    (k57 : PySem.W.keepIn K (.ref f57) = true)
    (a58 : PySem.W.nsIn K mainGlobals "_law_told" = some (some (.ref f58)))
    (l58 : K.lookup f58 = some ⟨oc58, od58, .func (PySem.W.fnOf "_law_told" "_law_told" (defArgs s__law_told) (defBody s__law_told) (defScope s__law_told) .none kV58 dc58 pm58 an58 cd58 ct58), sl58⟩)
    (c58 : PySem.W.codeIn K cd58 "_law_told" = true)
    (k58 : PySem.W.keepIn K (.ref f58) = true)
    (a59 : PySem.W.nsIn K mainGlobals "_law_arguments" = some (some (.ref f59)))
    (l59 : K.lookup f59 = some ⟨oc59, od59, .func (PySem.W.fnOf "_law_arguments" "_law_arguments" (defArgs s__law_arguments) (defBody s__law_arguments) (defScope s__law_arguments) .none kV59 dc59 pm59 an59 cd59 ct59), sl59⟩)
    (c59 : PySem.W.codeIn K cd59 "_law_arguments" = true)
    (k59 : PySem.W.keepIn K (.ref f59) = true)
    (a60 : PySem.W.nsIn K mainGlobals "_law_others" = some (some (.ref f60)))
    (l60 : K.lookup f60 = some ⟨oc60, od60, .func (PySem.W.fnOf "_law_others" "_law_others" (defArgs s__law_others) (defBody s__law_others) (defScope s__law_others) .none kV60 dc60 pm60 an60 cd60 ct60), sl60⟩)
    (c60 : PySem.W.codeIn K cd60 "_law_others" = true)
    (k60 : PySem.W.keepIn K (.ref f60) = true)
    (a61 : PySem.W.nsIn K mainGlobals "_law_cell_at" = some (some (.ref f61)))
    (l61 : K.lookup f61 = some ⟨oc61, od61, .func (PySem.W.fnOf "_law_cell_at" "_law_cell_at" (defArgs s__law_cell_at) (defBody s__law_cell_at) (defScope s__law_cell_at) .none kV61 dc61 pm61 an61 cd61 ct61), sl61⟩)
    (c61 : PySem.W.codeIn K cd61 "_law_cell_at" = true)
    (k61 : PySem.W.keepIn K (.ref f61) = true)
    (a62 : PySem.W.nsIn K mainGlobals "law" = some (some (.ref f62)))
    (l62 : K.lookup f62 = some ⟨oc62, od62, .func (PySem.W.fnOf "law" "law" (defArgs s_law) (defBody s_law) (defScope s_law) .none kV62 dc62 pm62 an62 cd62 ct62), sl62⟩)
    (c62 : PySem.W.codeIn K cd62 "law" = true)
    (k62 : PySem.W.keepIn K (.ref f62) = true)
    (pg_Hand : PySem.W.plainGet K c_Hand Str.empty = true)
    (hd_Hand : PySem.W.hasDictIn K c_Hand = true)
    (po_Hand : PySem.W.plainOver K c_Hand = true)
    (sa_Hand : PySem.W.findIn K (.ref c_Hand) "__setattr__" = some (some (.builtin "object.__setattr__")))
    (pg_Leaf : PySem.W.plainGet K c_Leaf Str.empty = true)
    (hd_Leaf : PySem.W.hasDictIn K c_Leaf = true)
    (po_Leaf : PySem.W.plainOver K c_Leaf = true)
    (sa_Leaf : PySem.W.findIn K (.ref c_Leaf) "__setattr__" = some (some (.builtin "object.__setattr__")))
    (pg_Fresh : PySem.W.plainGet K c_Fresh Str.empty = true)
    (hd_Fresh : PySem.W.hasDictIn K c_Fresh = true)
    (po_Fresh : PySem.W.plainOver K c_Fresh = true)
    (sa_Fresh : PySem.W.findIn K (.ref c_Fresh) "__setattr__" = some (some (.builtin "object.__setattr__")))
    (pg_Held : PySem.W.plainGet K c_Held Str.empty = true)
    (hd_Held : PySem.W.hasDictIn K c_Held = true)
    (po_Held : PySem.W.plainOver K c_Held = true)
    (sa_Held : PySem.W.findIn K (.ref c_Held) "__setattr__" = some (some (.builtin "object.__setattr__")))
    (pg_Out : PySem.W.plainGet K c_Out Str.empty = true)
    (hd_Out : PySem.W.hasDictIn K c_Out = true)
    (po_Out : PySem.W.plainOver K c_Out = true)
    (sa_Out : PySem.W.findIn K (.ref c_Out) "__setattr__" = some (some (.builtin "object.__setattr__")))
    (pg_Named : PySem.W.plainGet K c_Named Str.empty = true)
    (hd_Named : PySem.W.hasDictIn K c_Named = true)
    (po_Named : PySem.W.plainOver K c_Named = true)
    (sa_Named : PySem.W.findIn K (.ref c_Named) "__setattr__" = some (some (.builtin "object.__setattr__")))
    (pg_Counts : PySem.W.plainGet K c_Counts Str.empty = true)
    (hd_Counts : PySem.W.hasDictIn K c_Counts = true)
    (po_Counts : PySem.W.plainOver K c_Counts = true)
    (sa_Counts : PySem.W.findIn K (.ref c_Counts) "__setattr__" = some (some (.builtin "object.__setattr__")))
    (pg_Store : PySem.W.plainGet K c_Store Str.empty = true)
    (hd_Store : PySem.W.hasDictIn K c_Store = true)
    (po_Store : PySem.W.plainOver K c_Store = true)
    (sa_Store : PySem.W.findIn K (.ref c_Store) "__setattr__" = some (some (.builtin "object.__setattr__")))
    (pg_Pool : PySem.W.plainGet K c_Pool Str.empty = true)
    (hd_Pool : PySem.W.hasDictIn K c_Pool = true)
    (po_Pool : PySem.W.plainOver K c_Pool = true)
    (sa_Pool : PySem.W.findIn K (.ref c_Pool) "__setattr__" = some (some (.builtin "object.__setattr__")))
    (mk_Held : PySem.W.makesIn K c_Held = true)
    (kc_Held : PySem.W.keepIn K (.ref c_Held) = true)
    (mk_Store : PySem.W.makesIn K c_Store = true)
    (kc_Store : PySem.W.keepIn K (.ref c_Store) = true)
    (mk_Pool : PySem.W.makesIn K c_Pool = true)
    (kc_Pool : PySem.W.keepIn K (.ref c_Pool) = true)
    (mk_Out : PySem.W.makesIn K c_Out = true)
    (kc_Out : PySem.W.keepIn K (.ref c_Out) = true)
    (mk_Counts : PySem.W.makesIn K c_Counts = true)
    (kc_Counts : PySem.W.keepIn K (.ref c_Counts) = true)
    (mk_Named : PySem.W.makesIn K c_Named = true)
    (kc_Named : PySem.W.keepIn K (.ref c_Named) = true)
    (mk_Fresh : PySem.W.makesIn K c_Fresh = true)
    (kc_Fresh : PySem.W.keepIn K (.ref c_Fresh) = true)
    (mk_Hand : PySem.W.makesIn K c_Hand = true)
    (kc_Hand : PySem.W.keepIn K (.ref c_Hand) = true)
    (n_Counts_kept : PySem.W.findIn K (.ref c_Counts) "kept" = some none)
    (n_Fresh_frame : PySem.W.findIn K (.ref c_Fresh) "frame" = some none)
    (n_Fresh_rights : PySem.W.findIn K (.ref c_Fresh) "rights" = some none)
    (n_Fresh_slot : PySem.W.findIn K (.ref c_Fresh) "slot" = some none)
    (n_Hand_marked : PySem.W.findIn K (.ref c_Hand) "marked" = some none)
    (n_Hand_standing : PySem.W.findIn K (.ref c_Hand) "standing" = some none)
    (n_Held_frame : PySem.W.findIn K (.ref c_Held) "frame" = some none)
    (n_Held_rights : PySem.W.findIn K (.ref c_Held) "rights" = some none)
    (n_Held_slot : PySem.W.findIn K (.ref c_Held) "slot" = some none)
    (n_Leaf_rights : PySem.W.findIn K (.ref c_Leaf) "rights" = some none)
    (n_Named_frame : PySem.W.findIn K (.ref c_Named) "frame" = some none)
    (n_Named_name : PySem.W.findIn K (.ref c_Named) "name" = some none)
    (n_Named_part : PySem.W.findIn K (.ref c_Named) "part" = some none)
    (n_Named_rights : PySem.W.findIn K (.ref c_Named) "rights" = some none)
    (n_Named_slot : PySem.W.findIn K (.ref c_Named) "slot" = some none)
    (n_Out_frame : PySem.W.findIn K (.ref c_Out) "frame" = some none)
    (n_Out_rights : PySem.W.findIn K (.ref c_Out) "rights" = some none)
    (n_Out_slot : PySem.W.findIn K (.ref c_Out) "slot" = some none)
    (n_Pool_frame_store : PySem.W.findIn K (.ref c_Pool) "frame_store" = some none)
    (n_Pool_hand : PySem.W.findIn K (.ref c_Pool) "hand" = some none)
    (n_Pool_length : PySem.W.findIn K (.ref c_Pool) "length" = some none)
    (n_Pool_slot_store : PySem.W.findIn K (.ref c_Pool) "slot_store" = some none)
    (n_Store_contents : PySem.W.findIn K (.ref c_Store) "contents" = some none)
    (n_Store_length : PySem.W.findIn K (.ref c_Store) "length" = some none)
    (n_Store_tally : PySem.W.findIn K (.ref c_Store) "tally" = some none)
    (x_LeafError : PySem.W.excIn K c_LeafError bmV "ValueError.__new__" = true)
    (x_NoShape : PySem.W.excIn K c_NoShape bmV "ValueError.__new__" = true)
    (x_NoAddress : PySem.W.excIn K c_NoAddress bmV "ValueError.__new__" = true)
    (x_NoNumber : PySem.W.excIn K c_NoNumber bmV "ValueError.__new__" = true)
    (x_Full : PySem.W.excIn K c_Full bmV "ValueError.__new__" = true)
    (x_NoWord : PySem.W.excIn K c_NoWord bmV "ValueError.__new__" = true)
    (x_NoRights : PySem.W.excIn K c_NoRights bmV "ValueError.__new__" = true)
    (g_MOST_FRAMES : PySem.W.nsIn K mainGlobals "MOST_FRAMES" = some (some (.int 64 tkc_MOST_FRAMES)))
    (g_MOST_NUMBERS : PySem.W.nsIn K mainGlobals "MOST_NUMBERS" = some (some (.int 64 tkc_MOST_NUMBERS)))
    (g_MOST_WORDS : PySem.W.nsIn K mainGlobals "MOST_WORDS" = some (some (.int 64 tkc_MOST_WORDS)))
    (b_ValueError : PySem.W.nsIn K mainGlobals "ValueError" = some none)
    (b_bool : PySem.W.nsIn K mainGlobals "bool" = some none)
    (b_int : PySem.W.nsIn K mainGlobals "int" = some none)
    (b_isinstance : PySem.W.nsIn K mainGlobals "isinstance" = some none)
    (b_len : PySem.W.nsIn K mainGlobals "len" = some none)
    (b_list : PySem.W.nsIn K mainGlobals "list" = some none)
    (b_range : PySem.W.nsIn K mainGlobals "range" = some none)
    (b_zip : PySem.W.nsIn K mainGlobals "zip" = some none)
    (ga_NoNumber : PySem.W.findIn K (.ref c_NoNumber) "__getattribute__" = some (some (.builtin "BaseException.__getattribute__")))
    (gn_NoNumber : PySem.W.findIn K (.ref c_NoNumber) "__getattr__" = some none)
    (be_NoNumber : PySem.W.mroIn K c_NoNumber (.type "BaseException") = some true)
    (hx_NoNumber : PySem.W.hasDictIn K c_NoNumber = true)
    (ha_NoNumber : PySem.W.findIn K (.ref c_NoNumber) "__class__" = some (some (.builtin "object.__class__")))
    (hm_NoNumber : PySem.W.mroIn K c_NoNumber (.type "object") = some true)
    (ga_NoWord : PySem.W.findIn K (.ref c_NoWord) "__getattribute__" = some (some (.builtin "BaseException.__getattribute__")))
    (gn_NoWord : PySem.W.findIn K (.ref c_NoWord) "__getattr__" = some none)
    (be_NoWord : PySem.W.mroIn K c_NoWord (.type "BaseException") = some true)
    (hx_NoWord : PySem.W.hasDictIn K c_NoWord = true)
    (ha_NoWord : PySem.W.findIn K (.ref c_NoWord) "__class__" = some (some (.builtin "object.__class__")))
    (hm_NoWord : PySem.W.mroIn K c_NoWord (.type "object") = some true)
    (ga_Full : PySem.W.findIn K (.ref c_Full) "__getattribute__" = some (some (.builtin "BaseException.__getattribute__")))
    (gn_Full : PySem.W.findIn K (.ref c_Full) "__getattr__" = some none)
    (be_Full : PySem.W.mroIn K c_Full (.type "BaseException") = some true)
    (hx_Full : PySem.W.hasDictIn K c_Full = true)
    (ha_Full : PySem.W.findIn K (.ref c_Full) "__class__" = some (some (.builtin "object.__class__")))
    (hm_Full : PySem.W.mroIn K c_Full (.type "object") = some true)
    (ga_NoShape : PySem.W.findIn K (.ref c_NoShape) "__getattribute__" = some (some (.builtin "BaseException.__getattribute__")))
    (gn_NoShape : PySem.W.findIn K (.ref c_NoShape) "__getattr__" = some none)
    (be_NoShape : PySem.W.mroIn K c_NoShape (.type "BaseException") = some true)
    (hx_NoShape : PySem.W.hasDictIn K c_NoShape = true)
    (ha_NoShape : PySem.W.findIn K (.ref c_NoShape) "__class__" = some (some (.builtin "object.__class__")))
    (hm_NoShape : PySem.W.mroIn K c_NoShape (.type "object") = some true)
    (ga_NoAddress : PySem.W.findIn K (.ref c_NoAddress) "__getattribute__" = some (some (.builtin "BaseException.__getattribute__")))
    (gn_NoAddress : PySem.W.findIn K (.ref c_NoAddress) "__getattr__" = some none)
    (be_NoAddress : PySem.W.mroIn K c_NoAddress (.type "BaseException") = some true)
    (hx_NoAddress : PySem.W.hasDictIn K c_NoAddress = true)
    (ha_NoAddress : PySem.W.findIn K (.ref c_NoAddress) "__class__" = some (some (.builtin "object.__class__")))
    (hm_NoAddress : PySem.W.mroIn K c_NoAddress (.type "object") = some true)
    (hn : PySem.W.specialIn K (.builtin "object.__class__") "__get__" = some (some (.builtin "getset_descriptor.__get__")))
    (htk : PySem.W.takesIn K (.builtin "object.__class__") = some true)
    (ia_Fresh : PySem.W.findIn K (.ref c_Fresh) "__class__" = some (some (.builtin "object.__class__")))
    (im_Fresh : PySem.W.mroIn K c_Fresh (.type "object") = some true)
    (k_Fresh_Held : PySem.W.kitOne K (.ref c_Fresh) (.ref c_Held) = some false)
    (k_Fresh_Out : PySem.W.kitOne K (.ref c_Fresh) (.ref c_Out) = some false)
    (ia_Held : PySem.W.findIn K (.ref c_Held) "__class__" = some (some (.builtin "object.__class__")))
    (im_Held : PySem.W.mroIn K c_Held (.type "object") = some true)
    (k_Held_Held : PySem.W.kitOne K (.ref c_Held) (.ref c_Held) = some true)
    (k_Held_Out : PySem.W.kitOne K (.ref c_Held) (.ref c_Out) = some false)
    (ia_Out : PySem.W.findIn K (.ref c_Out) "__class__" = some (some (.builtin "object.__class__")))
    (im_Out : PySem.W.mroIn K c_Out (.type "object") = some true)
    (k_Out_Held : PySem.W.kitOne K (.ref c_Out) (.ref c_Held) = some false)
    (k_Out_Out : PySem.W.kitOne K (.ref c_Out) (.ref c_Out) = some true)
    (ia_Named : PySem.W.findIn K (.ref c_Named) "__class__" = some (some (.builtin "object.__class__")))
    (im_Named : PySem.W.mroIn K c_Named (.type "object") = some true)
    (k_Named_Held : PySem.W.kitOne K (.ref c_Named) (.ref c_Held) = some false)
    (k_Named_Out : PySem.W.kitOne K (.ref c_Named) (.ref c_Out) = some false)
    (e_NoWord_NoWord : PySem.W.kitOne K (.ref c_NoWord) (.ref c_NoWord) = some true)
    (e_NoWord_NoNumber : PySem.W.kitOne K (.ref c_NoWord) (.ref c_NoNumber) = some false)
    (e_NoWord_NoAddress : PySem.W.kitOne K (.ref c_NoWord) (.ref c_NoAddress) = some false)
    (e_NoWord_NoShape : PySem.W.kitOne K (.ref c_NoWord) (.ref c_NoShape) = some false)
    (e_NoWord_Full : PySem.W.kitOne K (.ref c_NoWord) (.ref c_Full) = some false)
    (e_NoNumber_NoWord : PySem.W.kitOne K (.ref c_NoNumber) (.ref c_NoWord) = some false)
    (e_NoNumber_NoNumber : PySem.W.kitOne K (.ref c_NoNumber) (.ref c_NoNumber) = some true)
    (e_NoNumber_NoAddress : PySem.W.kitOne K (.ref c_NoNumber) (.ref c_NoAddress) = some false)
    (e_NoNumber_NoShape : PySem.W.kitOne K (.ref c_NoNumber) (.ref c_NoShape) = some false)
    (e_NoNumber_Full : PySem.W.kitOne K (.ref c_NoNumber) (.ref c_Full) = some false)
    (e_NoAddress_NoWord : PySem.W.kitOne K (.ref c_NoAddress) (.ref c_NoWord) = some false)
    (e_NoAddress_NoNumber : PySem.W.kitOne K (.ref c_NoAddress) (.ref c_NoNumber) = some false)
    (e_NoAddress_NoAddress : PySem.W.kitOne K (.ref c_NoAddress) (.ref c_NoAddress) = some true)
    (e_NoAddress_NoShape : PySem.W.kitOne K (.ref c_NoAddress) (.ref c_NoShape) = some false)
    (e_NoAddress_Full : PySem.W.kitOne K (.ref c_NoAddress) (.ref c_Full) = some false)
    (e_NoShape_NoWord : PySem.W.kitOne K (.ref c_NoShape) (.ref c_NoWord) = some false)
    (e_NoShape_NoNumber : PySem.W.kitOne K (.ref c_NoShape) (.ref c_NoNumber) = some false)
    (e_NoShape_NoAddress : PySem.W.kitOne K (.ref c_NoShape) (.ref c_NoAddress) = some false)
    (e_NoShape_NoShape : PySem.W.kitOne K (.ref c_NoShape) (.ref c_NoShape) = some true)
    (e_NoShape_Full : PySem.W.kitOne K (.ref c_NoShape) (.ref c_Full) = some false)
    (v_NoWord : PySem.W.kitOne K (.ref c_NoWord) (.type "ValueError") = some true)
    (v_NoNumber : PySem.W.kitOne K (.ref c_NoNumber) (.type "ValueError") = some true)
    (v_NoAddress : PySem.W.kitOne K (.ref c_NoAddress) (.type "ValueError") = some true)
    (v_NoShape : PySem.W.kitOne K (.ref c_NoShape) (.type "ValueError") = some true)
    (s_NoWord : PySem.W.mroIn K c_NoWord (.ref c_LeafError) = some true)
    (s_NoNumber : PySem.W.mroIn K c_NoNumber (.ref c_LeafError) = some true)
    (s_NoAddress : PySem.W.mroIn K c_NoAddress (.ref c_LeafError) = some true)
    (s_NoShape : PySem.W.mroIn K c_NoShape (.ref c_LeafError) = some true) :
    ∃ fd : FuncData, (∀ (s : Shared) (v : Value), BindsTo s fd ⟨[v], []⟩ [("_law_script", v)]) ∧ ∀ base : Heap, K.In base → base.Ns mainGlobals mg → FnOk l.prog w K mg base (CXE l.prog w) 9 fa fd ["_law_script"] (spLaw K) := by
  have e := hfa.symm.trans (PySem.W.mg_of X G a62)
  cases e
  have T : Txt K mg ⟨c_LeafError, c_NoShape, c_NoAddress, c_NoNumber, c_Full, c_NoWord, c_NoRights, c_Hand, c_Leaf, c_Fresh, c_Held, c_Out, c_Named, c_Counts, c_Store, c_Pool⟩ := ⟨⟨pg_Hand, hd_Hand, po_Hand, sa_Hand⟩, ⟨pg_Leaf, hd_Leaf, po_Leaf, sa_Leaf⟩, ⟨pg_Fresh, hd_Fresh, po_Fresh, sa_Fresh⟩, ⟨pg_Held, hd_Held, po_Held, sa_Held⟩, ⟨pg_Out, hd_Out, po_Out, sa_Out⟩, ⟨pg_Named, hd_Named, po_Named, sa_Named⟩, ⟨pg_Counts, hd_Counts, po_Counts, sa_Counts⟩, ⟨pg_Store, hd_Store, po_Store, sa_Store⟩, ⟨pg_Pool, hd_Pool, po_Pool, sa_Pool⟩, n_Counts_kept, n_Fresh_frame, n_Fresh_rights, n_Fresh_slot, n_Hand_marked, n_Hand_standing, n_Held_frame, n_Held_rights, n_Held_slot, n_Leaf_rights, n_Named_frame, n_Named_name, n_Named_part, n_Named_rights, n_Named_slot, n_Out_frame, n_Out_rights, n_Out_slot, n_Pool_frame_store, n_Pool_hand, n_Pool_length, n_Pool_slot_store, n_Store_contents, n_Store_length, n_Store_tally, x_LeafError, PySem.W.mg_of X G a_c_LeafError, x_NoShape, PySem.W.mg_of X G a_c_NoShape, x_NoAddress, PySem.W.mg_of X G a_c_NoAddress, x_NoNumber, PySem.W.mg_of X G a_c_NoNumber, x_Full, PySem.W.mg_of X G a_c_Full, x_NoWord, PySem.W.mg_of X G a_c_NoWord, x_NoRights, PySem.W.mg_of X G a_c_NoRights, PySem.W.mg_of X G a_c_Hand, PySem.W.mg_of X G a_c_Leaf, PySem.W.mg_of X G a_c_Fresh, PySem.W.mg_of X G a_c_Held, PySem.W.mg_of X G a_c_Out, PySem.W.mg_of X G a_c_Named, PySem.W.mg_of X G a_c_Counts, PySem.W.mg_of X G a_c_Store, PySem.W.mg_of X G a_c_Pool, ⟨_, PySem.W.mg_of X G g_MOST_FRAMES⟩, ⟨_, PySem.W.mg_of X G g_MOST_NUMBERS⟩, ⟨_, PySem.W.mg_of X G g_MOST_WORDS⟩, PySem.W.mg_none_of X G b_ValueError, PySem.W.mg_none_of X G b_bool, PySem.W.mg_none_of X G b_int, PySem.W.mg_none_of X G b_isinstance, PySem.W.mg_none_of X G b_len, PySem.W.mg_none_of X G b_list, PySem.W.mg_none_of X G b_range, PySem.W.mg_none_of X G b_zip, ⟨ga_NoNumber, gn_NoNumber, be_NoNumber, hx_NoNumber, ha_NoNumber, hm_NoNumber⟩, ⟨ga_NoWord, gn_NoWord, be_NoWord, hx_NoWord, ha_NoWord, hm_NoWord⟩, ⟨ga_Full, gn_Full, be_Full, hx_Full, ha_Full, hm_Full⟩, ⟨ga_NoShape, gn_NoShape, be_NoShape, hx_NoShape, ha_NoShape, hm_NoShape⟩, ⟨ga_NoAddress, gn_NoAddress, be_NoAddress, hx_NoAddress, ha_NoAddress, hm_NoAddress⟩, ⟨hn, htk⟩, fun e => .of (.ins e ⟨pg_Fresh, hd_Fresh, po_Fresh, sa_Fresh⟩ ia_Fresh hn htk im_Fresh), k_Fresh_Held, k_Fresh_Out, fun e => .of (.ins e ⟨pg_Held, hd_Held, po_Held, sa_Held⟩ ia_Held hn htk im_Held), k_Held_Held, k_Held_Out, fun e => .of (.ins e ⟨pg_Out, hd_Out, po_Out, sa_Out⟩ ia_Out hn htk im_Out), k_Out_Held, k_Out_Out, fun e => .of (.ins e ⟨pg_Named, hd_Named, po_Named, sa_Named⟩ ia_Named hn htk im_Named), k_Named_Held, k_Named_Out, e_NoWord_NoWord, e_NoWord_NoNumber, e_NoWord_NoAddress, e_NoWord_NoShape, e_NoWord_Full, e_NoNumber_NoWord, e_NoNumber_NoNumber, e_NoNumber_NoAddress, e_NoNumber_NoShape, e_NoNumber_Full, e_NoAddress_NoWord, e_NoAddress_NoNumber, e_NoAddress_NoAddress, e_NoAddress_NoShape, e_NoAddress_Full, e_NoShape_NoWord, e_NoShape_NoNumber, e_NoShape_NoAddress, e_NoShape_NoShape, e_NoShape_Full, v_NoWord, v_NoNumber, v_NoAddress, v_NoShape, s_NoWord, s_NoNumber, s_NoAddress, s_NoShape⟩
  refine ⟨PySem.W.fnOf "law" "law" (defArgs s_law) (defBody s_law) (defScope s_law) .none kV62 dc62 pm62 an62 cd62 ct62, fun s v => .of_eq rfl, fun base _ _ => ?_⟩
  have h__law_cell_at := ok__law_cell_at (P := l.prog) (w := w) (base := base) (dvs := []) ⟨f61, _, _, _, _, _, _, _, _, _, _, [], l61, c61, k61, PySem.W.mg_of X G a61, .all (fun us hl => match us, hl with | [_, _], _ => rfl), .nil⟩ T 
  have h_Counts___init__ := ok_Counts___init__ (P := l.prog) (w := w) (base := base) (dvs := []) ⟨f8, _, _, _, _, _, _, _, _, _, _, [], l8, c8, ⟨mk_Counts, fi_Counts___init__, i8, kc_Counts⟩, .all (fun us hl => match us, hl with | [_, _], _ => rfl), .nil⟩ T 
  have h_Store___init__ := ok_Store___init__ (P := l.prog) (w := w) (base := base) (dvs := []) ⟨f11, _, _, _, _, _, _, _, _, _, _, [], l11, c11, ⟨mk_Store, fi_Store___init__, i11, kc_Store⟩, .all (fun us hl => match us, hl with | [_, _, _], _ => rfl), .nil⟩ T h_Counts___init__
  have h_Hand___init__ := ok_Hand___init__ (P := l.prog) (w := w) (base := base) (dvs := []) ⟨f25, _, _, _, _, _, _, _, _, _, _, [], l25, c25, ⟨mk_Hand, fi_Hand___init__, i25, kc_Hand⟩, .all (fun us hl => match us, hl with | [_, _], _ => rfl), .nil⟩ T 
  have h_Pool___init__ := ok_Pool___init__ (P := l.prog) (w := w) (base := base) (dvs := []) ⟨f36, _, _, _, _, _, _, _, _, _, _, [], l36, c36, ⟨mk_Pool, fi_Pool___init__, i36, kc_Pool⟩, .all (fun us hl => match us, hl with | [_, _, _, _], _ => rfl), .nil⟩ T h_Store___init__ h_Hand___init__
  have h_is_word := ok_is_word (P := l.prog) (w := w) (base := base) (dvs := []) ⟨f9, _, _, _, _, _, _, _, _, _, _, [], l9, c9, k9, PySem.W.mg_of X G a9, .all (fun us hl => match us, hl with | [_], _ => rfl), .nil⟩ T 
  have h_check_word := ok_check_word (P := l.prog) (w := w) (base := base) (dvs := []) ⟨f10, _, _, _, _, _, _, _, _, _, _, [], l10, c10, k10, PySem.W.mg_of X G a10, .all (fun us hl => match us, hl with | [_], _ => rfl), .nil⟩ T h_is_word
  have h_Store_check_words := ok_Store_check_words (P := l.prog) (w := w) (base := base) (dvs := []) ⟨f12, _, _, _, _, _, _, _, _, _, _, [], l12, c12, ⟨fi_Store_check_words, i12, k12⟩, .all (fun us hl => match us, hl with | [_, _], _ => rfl), .nil⟩ T h_check_word
  have h_Counts_free := ok_Counts_free (P := l.prog) (w := w) (base := base) (dvs := []) ⟨f5, _, _, _, _, _, _, _, _, _, _, [], l5, c5, ⟨fi_Counts_free, i5, k5⟩, .all (fun us hl => match us, hl with | [_], _ => rfl), .nil⟩ T 
  have h_Store_free := ok_Store_free (P := l.prog) (w := w) (base := base) (dvs := []) ⟨f24, _, _, _, _, _, _, _, _, _, _, [], l24, c24, ⟨fi_Store_free, i24, k24⟩, .all (fun us hl => match us, hl with | [_], _ => rfl), .nil⟩ T h_Counts_free
  have h_Pool_room := ok_Pool_room (P := l.prog) (w := w) (base := base) (dvs := []) ⟨f37, _, _, _, _, _, _, _, _, _, _, [], l37, c37, ⟨fi_Pool_room, i37, k37⟩, .all (fun us hl => match us, hl with | [_], _ => rfl), .nil⟩ T h_Store_free
  have h_Hand_unmark := ok_Hand_unmark (P := l.prog) (w := w) (base := base) (dvs := []) ⟨f27, _, _, _, _, _, _, _, _, _, _, [], l27, c27, ⟨fi_Hand_unmark, i27, k27⟩, .all (fun us hl => match us, hl with | [_, _], _ => rfl), .nil⟩ T 
  have h_Hand_go_on := ok_Hand_go_on (P := l.prog) (w := w) (base := base) (dvs := []) ⟨f28, _, _, _, _, _, _, _, _, _, _, [], l28, c28, ⟨fi_Hand_go_on, i28, k28⟩, .all (fun us hl => match us, hl with | [_], _ => rfl), .nil⟩ T 
  have h_Hand_chosen := ok_Hand_chosen (P := l.prog) (w := w) (base := base) (dvs := []) ⟨f29, _, _, _, _, _, _, _, _, _, _, [], l29, c29, ⟨fi_Hand_chosen, i29, k29⟩, .all (fun us hl => match us, hl with | [_], _ => rfl), .nil⟩ T h_Hand_unmark h_Hand_go_on
  have h_Counts_of := ok_Counts_of (P := l.prog) (w := w) (base := base) (dvs := []) ⟨f1, _, _, _, _, _, _, _, _, _, _, [], l1, c1, ⟨fi_Counts_of, i1, k1⟩, .all (fun us hl => match us, hl with | [_, _], _ => rfl), .nil⟩ T 
  have h_Counts_check_taken := ok_Counts_check_taken (P := l.prog) (w := w) (base := base) (dvs := []) ⟨f2, _, _, _, _, _, _, _, _, _, _, [], l2, c2, ⟨fi_Counts_check_taken, i2, k2⟩, .all (fun us hl => match us, hl with | [_, _], _ => rfl), .nil⟩ T h_Counts_of
  have h_Counts_freed := ok_Counts_freed (P := l.prog) (w := w) (base := base) (dvs := []) ⟨f18, _, _, _, _, _, _, _, _, _, _, [], l18, c18, ⟨fi_Counts_freed, i18, k18⟩, .all (fun us hl => match us, hl with | [_, _], _ => rfl), .nil⟩ T h_Counts_check_taken
  have h_Store_gone := ok_Store_gone (P := l.prog) (w := w) (base := base) (dvs := []) ⟨f21, _, _, _, _, _, _, _, _, _, _, [], l21, c21, ⟨fi_Store_gone, i21, k21⟩, .all (fun us hl => match us, hl with | [_, _], _ => rfl), .nil⟩ T h_Counts_freed
  have h_Counts_taken := ok_Counts_taken (P := l.prog) (w := w) (base := base) (dvs := []) ⟨f7, _, _, _, _, _, _, _, _, _, _, [], l7, c7, ⟨fi_Counts_taken, i7, k7⟩, (fun s us XX hl => match us, (show us.length = 2 by rw [List.append_nil] at hl; exact hl) with | [_, _], _ => PySem.W.binds_K XX rfl dt7 rfl rfl rfl), .nil⟩ T h_Counts_free
  have h_Store_made := ok_Store_made (P := l.prog) (w := w) (base := base) (dvs := []) ⟨f17, _, _, _, _, _, _, _, _, _, _, [], l17, c17, ⟨fi_Store_made, i17, k17⟩, (fun s us XX hl => match us, (show us.length = 3 by rw [List.append_nil] at hl; exact hl) with | [_, _, _], _ => PySem.W.binds_K XX rfl dt17 rfl rfl rfl), .nil⟩ T h_Store_check_words h_Counts_taken
  have h_Pool_put_out := ok_Pool_put_out (P := l.prog) (w := w) (base := base) (dvs := []) ⟨f38, _, _, _, _, _, _, _, _, _, _, [], l38, c38, ⟨fi_Pool_put_out, i38, k38⟩, .all (fun us hl => match us, hl with | [_], _ => rfl), .nil⟩ T h_Store_free h_Hand_chosen h_Store_gone h_Store_made
  have h_Hand_mark := ok_Hand_mark (P := l.prog) (w := w) (base := base) (dvs := []) ⟨f26, _, _, _, _, _, _, _, _, _, _, [], l26, c26, ⟨fi_Hand_mark, i26, k26⟩, .all (fun us hl => match us, hl with | [_, _], _ => rfl), .nil⟩ T 
  have h_Pool_brought_in := ok_Pool_brought_in (P := l.prog) (w := w) (base := base) (dvs := []) ⟨f39, _, _, _, _, _, _, _, _, _, _, [], l39, c39, ⟨fi_Pool_brought_in, i39, k39⟩, .all (fun us hl => match us, hl with | [_, _, _], _ => rfl), .nil⟩ T h_Store_made h_Hand_mark
  have h_Pool_made := ok_Pool_made (P := l.prog) (w := w) (base := base) (dvs := []) ⟨f40, _, _, _, _, _, _, _, _, _, _, [], l40, c40, ⟨fi_Pool_made, i40, k40⟩, .all (fun us hl => match us, hl with | [_, _], _ => rfl), .nil⟩ T h_Store_check_words h_Pool_room h_Pool_put_out h_Pool_brought_in
  have h_Counts_more := ok_Counts_more (P := l.prog) (w := w) (base := base) (dvs := []) ⟨f3, _, _, _, _, _, _, _, _, _, _, [], l3, c3, ⟨fi_Counts_more, i3, k3⟩, .all (fun us hl => match us, hl with | [_, _], _ => rfl), .nil⟩ T h_Counts_check_taken
  have h_Store_more := ok_Store_more (P := l.prog) (w := w) (base := base) (dvs := []) ⟨f19, _, _, _, _, _, _, _, _, _, _, [], l19, c19, ⟨fi_Store_more, i19, k19⟩, .all (fun us hl => match us, hl with | [_, _], _ => rfl), .nil⟩ T h_Counts_more
  have h_Pool_more := ok_Pool_more (P := l.prog) (w := w) (base := base) (dvs := []) ⟨f48, _, _, _, _, _, _, _, _, _, _, [], l48, c48, ⟨fi_Pool_more, i48, k48⟩, .all (fun us hl => match us, hl with | [_, _], _ => rfl), .nil⟩ T h_Store_more
  have h_check_rights := ok_check_rights (P := l.prog) (w := w) (base := base) (dvs := []) ⟨f31, _, _, _, _, _, _, _, _, _, _, [], l31, c31, k31, PySem.W.mg_of X G a31, .all (fun us hl => match us, hl with | [_], _ => rfl), .nil⟩ T 
  have hc_Leaf___init__ := hasCm (dvs := []) (ds := []) (fk_Leaf___init__ (P := l.prog) (w := w) (base := base) l32 c32 T h_check_rights) ⟨sg_Leaf, ⟨_, rd_Leaf, fc_Leaf___init__⟩, k32⟩ (.all (fun us hl => match us, hl with | [_, _], _ => rfl)) .nil
  have h_Held___init__ := ok_Held___init__ (P := l.prog) (w := w) (base := base) (dvs := []) ⟨f33, _, _, _, _, _, _, _, _, _, _, [], l33, c33, ⟨mk_Held, fi_Held___init__, i33, kc_Held⟩, .all (fun us hl => match us, hl with | [_, _, _], _ => rfl), .nil⟩ T hc_Leaf___init__
  have h__law_mixed := ok__law_mixed (P := l.prog) (w := w) (base := base) (dvs := []) ⟨f54, _, _, _, _, _, _, _, _, _, _, [], l54, c54, k54, PySem.W.mg_of X G a54, .all (fun us hl => match us, hl with | [_], _ => rfl), .nil⟩ T 
  have h_Hand_marks := ok_Hand_marks (P := l.prog) (w := w) (base := base) (dvs := []) ⟨f30, _, _, _, _, _, _, _, _, _, _, [], l30, c30, ⟨fi_Hand_marks, i30, k30⟩, .all (fun us hl => match us, hl with | [_], _ => rfl), .nil⟩ T 
  have h_Pool_marks := ok_Pool_marks (P := l.prog) (w := w) (base := base) (dvs := []) ⟨f46, _, _, _, _, _, _, _, _, _, _, [], l46, c46, ⟨fi_Pool_marks, i46, k46⟩, .all (fun us hl => match us, hl with | [_], _ => rfl), .nil⟩ T h_Hand_marks
  have h_Counts_told := ok_Counts_told (P := l.prog) (w := w) (base := base) (dvs := []) ⟨f6, _, _, _, _, _, _, _, _, _, _, [], l6, c6, ⟨fi_Counts_told, i6, k6⟩, .all (fun us hl => match us, hl with | [_], _ => rfl), .nil⟩ T 
  have h_Store_counts := ok_Store_counts (P := l.prog) (w := w) (base := base) (dvs := []) ⟨f23, _, _, _, _, _, _, _, _, _, _, [], l23, c23, ⟨fi_Store_counts, i23, k23⟩, .all (fun us hl => match us, hl with | [_], _ => rfl), .nil⟩ T h_Counts_told
  have h_Pool_slots := ok_Pool_slots (P := l.prog) (w := w) (base := base) (dvs := []) ⟨f45, _, _, _, _, _, _, _, _, _, _, [], l45, c45, ⟨fi_Pool_slots, i45, k45⟩, .all (fun us hl => match us, hl with | [_], _ => rfl), .nil⟩ T h_Store_counts
  have h_Pool_frames := ok_Pool_frames (P := l.prog) (w := w) (base := base) (dvs := []) ⟨f44, _, _, _, _, _, _, _, _, _, _, [], l44, c44, ⟨fi_Pool_frames, i44, k44⟩, .all (fun us hl => match us, hl with | [_], _ => rfl), .nil⟩ T h_Store_counts
  have h_Store_words := ok_Store_words (P := l.prog) (w := w) (base := base) (dvs := []) ⟨f14, _, _, _, _, _, _, _, _, _, _, [], l14, c14, ⟨fi_Store_words, i14, k14⟩, .all (fun us hl => match us, hl with | [_, _], _ => rfl), .nil⟩ T h_Counts_check_taken
  have h_Pool_words := ok_Pool_words (P := l.prog) (w := w) (base := base) (dvs := []) ⟨f43, _, _, _, _, _, _, _, _, _, _, [], l43, c43, ⟨fi_Pool_words, i43, k43⟩, .all (fun us hl => match us, hl with | [_, _], _ => rfl), .nil⟩ T h_Store_words
  have h_Out___init__ := ok_Out___init__ (P := l.prog) (w := w) (base := base) (dvs := []) ⟨f34, _, _, _, _, _, _, _, _, _, _, [], l34, c34, ⟨mk_Out, fi_Out___init__, i34, kc_Out⟩, .all (fun us hl => match us, hl with | [_, _, _], _ => rfl), .nil⟩ T hc_Leaf___init__
  have h__law_told := ok__law_told (P := l.prog) (w := w) (base := base) (dvs := []) ⟨f58, _, _, _, _, _, _, _, _, _, _, [], l58, c58, k58, PySem.W.mg_of X G a58, .all (fun us hl => match us, hl with | [_], _ => rfl), .nil⟩ T h_Pool_room h_Pool_marks h_Pool_slots h_Pool_frames h_Pool_words h_Held___init__ h_Out___init__
  have h__law_bad_words := ok__law_bad_words (P := l.prog) (w := w) (base := base) (dvs := []) ⟨f57, _, _, _, _, _, _, _, _, _, _, [], l57, c57, k57, PySem.W.mg_of X G a57, .all (fun us hl => match us, hl with | [_, _], _ => rfl), .nil⟩ T 
  have h__law_none := ok__law_none (P := l.prog) (w := w) (base := base) (dvs := []) ⟨f55, _, _, _, _, _, _, _, _, _, _, [], l55, c55, k55, PySem.W.mg_of X G a55, .all (fun us hl => match us, hl with | [_, _], _ => rfl), .nil⟩ T 
  have h__law_sizes := ok__law_sizes (P := l.prog) (w := w) (base := base) (dvs := []) ⟨f56, _, _, _, _, _, _, _, _, _, _, [], l56, c56, k56, PySem.W.mg_of X G a56, .all (fun us hl => match us, hl with | [_], _ => rfl), .nil⟩ T 
  have h__law_arguments := ok__law_arguments (P := l.prog) (w := w) (base := base) (dvs := []) ⟨f59, _, _, _, _, _, _, _, _, _, _, [], l59, c59, k59, PySem.W.mg_of X G a59, .all (fun us hl => match us, hl with | [_, _, _, _], _ => rfl), .nil⟩ T h_Pool_frames h_Pool_slots h__law_bad_words h__law_none h__law_sizes h_Held___init__ h_Out___init__
  have h_Store_check_place := ok_Store_check_place (P := l.prog) (w := w) (base := base) (dvs := []) ⟨f13, _, _, _, _, _, _, _, _, _, _, [], l13, c13, ⟨fi_Store_check_place, i13, k13⟩, .all (fun us hl => match us, hl with | [_, _, _], _ => rfl), .nil⟩ T h_Counts_check_taken
  have h_Store_word := ok_Store_word (P := l.prog) (w := w) (base := base) (dvs := []) ⟨f15, _, _, _, _, _, _, _, _, _, _, [], l15, c15, ⟨fi_Store_word, i15, k15⟩, .all (fun us hl => match us, hl with | [_, _, _], _ => rfl), .nil⟩ T h_Store_check_place
  have h_Pool_word := ok_Pool_word (P := l.prog) (w := w) (base := base) (dvs := []) ⟨f41, _, _, _, _, _, _, _, _, _, _, [], l41, c41, ⟨fi_Pool_word, i41, k41⟩, .all (fun us hl => match us, hl with | [_, _, _], _ => rfl), .nil⟩ T h_Store_word h_Hand_mark
  have h_Store_put := ok_Store_put (P := l.prog) (w := w) (base := base) (dvs := []) ⟨f16, _, _, _, _, _, _, _, _, _, _, [], l16, c16, ⟨fi_Store_put, i16, k16⟩, .all (fun us hl => match us, hl with | [_, _, _, _], _ => rfl), .nil⟩ T h_Store_check_place h_check_word
  have h_Pool_put := ok_Pool_put (P := l.prog) (w := w) (base := base) (dvs := []) ⟨f42, _, _, _, _, _, _, _, _, _, _, [], l42, c42, ⟨fi_Pool_put, i42, k42⟩, .all (fun us hl => match us, hl with | [_, _, _, _], _ => rfl), .nil⟩ T h_Store_put h_Hand_mark
  have h_Pool_fetched := ok_Pool_fetched (P := l.prog) (w := w) (base := base) (dvs := []) ⟨f50, _, _, _, _, _, _, _, _, _, _, [], l50, c50, ⟨fi_Pool_fetched, i50, k50⟩, .all (fun us hl => match us, hl with | [_, _], _ => rfl), .nil⟩ T h_Store_gone h_Pool_put_out h_Pool_brought_in
  have h_Counts_less := ok_Counts_less (P := l.prog) (w := w) (base := base) (dvs := []) ⟨f4, _, _, _, _, _, _, _, _, _, _, [], l4, c4, ⟨fi_Counts_less, i4, k4⟩, .all (fun us hl => match us, hl with | [_, _], _ => rfl), .nil⟩ T h_Counts_check_taken
  have h_Store_less := ok_Store_less (P := l.prog) (w := w) (base := base) (dvs := []) ⟨f20, _, _, _, _, _, _, _, _, _, _, [], l20, c20, ⟨fi_Store_less, i20, k20⟩, .all (fun us hl => match us, hl with | [_, _], _ => rfl), .nil⟩ T h_Counts_less
  have h_Pool_less := ok_Pool_less (P := l.prog) (w := w) (base := base) (dvs := []) ⟨f49, _, _, _, _, _, _, _, _, _, _, [], l49, c49, ⟨fi_Pool_less, i49, k49⟩, .all (fun us hl => match us, hl with | [_, _], _ => rfl), .nil⟩ T h_Store_less h_Hand_unmark
  have h_Store_count := ok_Store_count (P := l.prog) (w := w) (base := base) (dvs := []) ⟨f22, _, _, _, _, _, _, _, _, _, _, [], l22, c22, ⟨fi_Store_count, i22, k22⟩, .all (fun us hl => match us, hl with | [_, _], _ => rfl), .nil⟩ T h_Counts_check_taken h_Counts_of
  have h_Pool_count := ok_Pool_count (P := l.prog) (w := w) (base := base) (dvs := []) ⟨f47, _, _, _, _, _, _, _, _, _, _, [], l47, c47, ⟨fi_Pool_count, i47, k47⟩, .all (fun us hl => match us, hl with | [_, _], _ => rfl), .nil⟩ T h_Store_count
  have h__law_called := ok__law_called (P := l.prog) (w := w) (base := base) (dvs := []) ⟨f52, _, _, _, _, _, _, _, _, _, _, [], l52, c52, k52, PySem.W.mg_of X G a52, .all (fun us hl => match us, hl with | [_, _, _], _ => rfl), .nil⟩ T h_Pool_made h_Pool_word h_Pool_put h_Pool_fetched h_Pool_more h_Pool_less h_Pool_words h_Pool_count h_Pool___init__
  have h__law_kinds := ok__law_kinds (P := l.prog) (w := w) (base := base) (dvs := []) ⟨f51, _, _, _, _, _, _, _, _, _, _, [], l51, c51, k51, PySem.W.mg_of X G a51, .all (fun us hl => match us, hl with | [_], _ => rfl), .nil⟩ T 
  have h__law_found := ok__law_found (P := l.prog) (w := w) (base := base) (dvs := []) ⟨f53, _, _, _, _, _, _, _, _, _, _, [], l53, c53, k53, PySem.W.mg_of X G a53, .all (fun us hl => match us, hl with | [_, _, _], _ => rfl), .nil⟩ T h__law_called h__law_kinds
  have h_Named___init__ := ok_Named___init__ (P := l.prog) (w := w) (base := base) (dvs := []) ⟨f35, _, _, _, _, _, _, _, _, _, _, [], l35, c35, ⟨mk_Named, fi_Named___init__, i35, kc_Named⟩, .all (fun us hl => match us, hl with | [_, _, _, _], _ => rfl), .nil⟩ T hc_Leaf___init__
  have h_Fresh___init__ := hasMk (dvs := []) (ds := []) (fk_Leaf___init__ (P := l.prog) (w := w) (base := base) l32 c32 T h_check_rights) ⟨mk_Fresh, fi_Fresh___init__, i32, kc_Fresh⟩ (.all (fun us hl => match us, hl with | [_, _], _ => rfl)) .nil
  have h__law_others := ok__law_others (P := l.prog) (w := w) (base := base) (dvs := []) ⟨f60, _, _, _, _, _, _, _, _, _, _, [], l60, c60, k60, PySem.W.mg_of X G a60, .all (fun us hl => match us, hl with | [_, _, _], _ => rfl), .nil⟩ T h__law_told h_Named___init__ h_Fresh___init__ h_Pool_more h_Pool_less h_Pool_words h_Pool_count
  exact ok_law l62 c62 T h__law_cell_at h_Pool___init__ h_Pool_made h_Pool_more h_Held___init__ h__law_mixed h__law_told h__law_arguments h__law_found h__law_others
theorem walk {l : PySem.W.OpenLaw} {q : Program} {loose : List Str} {XP : (Str → Option Value) → Heap → Prop} {YP : World → Heap → Prop} {d : DefRec} {K : Params → PySem.W.Frag} (hn : l.most = some 63) (hdf : d.params.defaults = [])
    (hY : ∀ (w : World) (h : Heap), YP w h → (K w.params).In h)
    (F : ∀ (w : World) (mg : Str → Option Value) (fa : Addr) (h : Heap), (K w.params).In h → h.Ns mainGlobals mg → mg d.name = some (.ref fa) →
      ∃ fd : FuncData, (∀ (s : Shared) (u : Value), BindsTo s fd ⟨[u], []⟩ [("_law_script", u)]) ∧ ∀ base : Heap, (K w.params).In base → base.Ns mainGlobals mg → FnOk l.prog w (K w.params) mg base (CXE l.prog w) 9 fa fd ["_law_script"] (spLaw (K w.params))) :
    PySem.W.WalkO q loose XP YP l.row.toRowW d [] (fun f vs => PySem.call f vs) :=
  L2.walk_of (n := 63) (k := 9) (x := "_law_script") (CX := fun w => CXE l.prog w) (sp := fun w => spLaw (K w.params)) hn (by decide) hdf ⟨rfl, by decide, by decide⟩ hY F (fun _ _ a ns hl _ hS => ⟨a, ns, rfl, hS, hl, fun _ => rfl⟩) fun _ _ _ _ _ z => by
    obtain ⟨_, _, _, _, _, _, _, _, _, _, q⟩ := z
    exact q
end K30

set_option maxHeartbeats 4000000
open PySem PySem.W PyProof.Rows
theorem PySem.W.Fast.tw1321788257547886828 : True := trivial
theorem PySem.W.Fast.tw3744801718269504227 : True := trivial
theorem PySem.W.Fast.tw12453020106866166603 : True := trivial
theorem PySem.W.Fast.tw9958081135385675651 : True := trivial
theorem PySem.W.Fast.tw2009326679687018390 : True := trivial
theorem PySem.W.Fast.tw12966615209794640656 : True := trivial
theorem PySem.W.Fast.tw13469032479555895662 : True := trivial
theorem PySem.W.Fast.tw6763287122694465997 : True := trivial
theorem PySem.W.Fast.tw16301304360646390130 : True := trivial
theorem PySem.W.Fast.tw12994614856279674902 : True := trivial
theorem PySem.W.Fast.tw3682973914679440863 : True := trivial
theorem PySem.W.Fast.tw13201043279138323903 : True := trivial
theorem PySem.W.Fast.tw7299502268622617963 : True := trivial
theorem PySem.W.Fast.tw7842605533737579915 : True := trivial
theorem PySem.W.Fast.tw899590969158136124 : True := trivial
theorem PySem.W.Fast.tw8214302390614575578 : True := trivial
theorem PySem.W.Fast.tw8061770982726706762 : True := trivial
theorem PySem.W.Fast.tw10950489114905350446 : True := trivial
theorem PySem.W.Fast.tw15192395563882700403 : True := trivial
theorem PySem.W.Fast.tw18153973744601664434 : True := trivial
theorem PySem.W.Fast.tw232394316876997193 : True := trivial
theorem PySem.W.Fast.tw3638829169500392410 : True := trivial
theorem PySem.W.Fast.tw6933358890022275326 : True := trivial
theorem PySem.W.Fast.tw9835240016442536724 : True := trivial
set_option maxHeartbeats 0 in
theorem PySem.Challenge.cw_leafframe_k30_pool_refused_holds : PySem.Challenge.rw_leafframe_k30_pool_refused.Holds := by
  w_on; o_law; k_head; (case hw => w_witness2)
  k_fill
  refine K30.walk (l := PySem.Challenge.rw_leafframe_k30_pool_refused) rfl rfl (fun w h Y => PySem.W.kIn_of Y) ?F
  case F =>
    intro w mg fa h KX G hmg
    refine' K30.all_mk KX G hmg ?a_c_LeafError ?a_c_NoShape ?a_c_NoAddress ?a_c_NoNumber ?a_c_Full ?a_c_NoWord ?a_c_NoRights ?a_c_Hand ?a_c_Leaf ?a_c_Fresh ?a_c_Held ?a_c_Out ?a_c_Named ?a_c_Counts ?a_c_Store ?a_c_Pool ?fi_Counts_of ?fi_Counts_check_taken ?fi_Counts_free ?fi_Counts___init__ ?fi_Store_check_place ?fi_Store_check_words ?fi_Counts_taken ?fi_Counts_more ?fi_Counts_less ?fi_Counts_freed ?fi_Counts_told ?fi_Hand_unmark ?fi_Hand_go_on ?fc_Leaf___init__ ?rd_Leaf ?sg_Leaf ?fi_Store___init__ ?fi_Hand___init__ ?fi_Store_free ?fi_Hand_chosen ?fi_Store_gone ?fi_Store_made ?fi_Hand_mark ?fi_Pool_room ?fi_Pool_put_out ?fi_Pool_brought_in ?fi_Store_word ?fi_Store_put ?fi_Store_words ?fi_Store_counts ?fi_Hand_marks ?fi_Store_count ?fi_Store_more ?fi_Store_less ?fi_Pool_made ?fi_Pool_word ?fi_Pool_put ?fi_Pool_fetched ?fi_Pool_more ?fi_Pool_less ?fi_Pool_words ?fi_Pool_count ?fi_Pool___init__ ?fi_Pool_marks ?fi_Pool_slots ?fi_Pool_frames ?fi_Held___init__ ?fi_Out___init__ ?fi_Named___init__ ?fi_Fresh___init__ ?l1 ?c1 ?k1 ?i1 ?l2 ?c2 ?k2 ?i2 ?l3 ?c3 ?k3 ?i3 ?l4 ?c4 ?k4 ?i4 ?l5 ?c5 ?k5 ?i5 ?l6 ?c6 ?k6 ?i6 ?l7 ?c7 ?k7 ?i7 ?dt7 ?l8 ?c8 ?k8 ?i8 ?a9 ?l9 ?c9 ?k9 ?a10 ?l10 ?c10 ?k10 ?l11 ?c11 ?k11 ?i11 ?l12 ?c12 ?k12 ?i12 ?l13 ?c13 ?k13 ?i13 ?l14 ?c14 ?k14 ?i14 ?l15 ?c15 ?k15 ?i15 ?l16 ?c16 ?k16 ?i16 ?l17 ?c17 ?k17 ?i17 ?dt17 ?l18 ?c18 ?k18 ?i18 ?l19 ?c19 ?k19 ?i19 ?l20 ?c20 ?k20 ?i20 ?l21 ?c21 ?k21 ?i21 ?l22 ?c22 ?k22 ?i22 ?l23 ?c23 ?k23 ?i23 ?l24 ?c24 ?k24 ?i24 ?l25 ?c25 ?k25 ?i25 ?l26 ?c26 ?k26 ?i26 ?l27 ?c27 ?k27 ?i27 ?l28 ?c28 ?k28 ?i28 ?l29 ?c29 ?k29 ?i29 ?l30 ?c30 ?k30 ?i30 ?a31 ?l31 ?c31 ?k31 ?l32 ?c32 ?k32 ?i32 ?l33 ?c33 ?k33 ?i33 ?l34 ?c34 ?k34 ?i34 ?l35 ?c35 ?k35 ?i35 ?l36 ?c36 ?k36 ?i36 ?l37 ?c37 ?k37 ?i37 ?l38 ?c38 ?k38 ?i38 ?l39 ?c39 ?k39 ?i39 ?l40 ?c40 ?k40 ?i40 ?l41 ?c41 ?k41 ?i41 ?l42 ?c42 ?k42 ?i42 ?l43 ?c43 ?k43 ?i43 ?l44 ?c44 ?k44 ?i44 ?l45 ?c45 ?k45 ?i45 ?l46 ?c46 ?k46 ?i46 ?l47 ?c47 ?k47 ?i47 ?l48 ?c48 ?k48 ?i48 ?l49 ?c49 ?k49 ?i49 ?l50 ?c50 ?k50 ?i50 ?a51 ?l51 ?c51 ?k51 ?a52 ?l52 ?c52 ?k52 ?a53 ?l53 ?c53 ?k53 ?a54 ?l54 ?c54 ?k54 ?a55 ?l55 ?c55 ?k55 ?a56 ?l56 ?c56 ?k56 ?a57 ?l57 ?c57 ?k57 ?a58 ?l58 ?c58 ?k58 ?a59 ?l59 ?c59 ?k59 ?a60 ?l60 ?c60 ?k60 ?a61 ?l61 ?c61 ?k61 ?a62 ?l62 ?c62 ?k62 ?pg_Hand ?hd_Hand ?po_Hand ?sa_Hand ?pg_Leaf ?hd_Leaf ?po_Leaf ?sa_Leaf ?pg_Fresh ?hd_Fresh ?po_Fresh ?sa_Fresh ?pg_Held ?hd_Held ?po_Held ?sa_Held ?pg_Out ?hd_Out ?po_Out ?sa_Out ?pg_Named ?hd_Named ?po_Named ?sa_Named ?pg_Counts ?hd_Counts ?po_Counts ?sa_Counts ?pg_Store ?hd_Store ?po_Store ?sa_Store ?pg_Pool ?hd_Pool ?po_Pool ?sa_Pool ?mk_Held ?kc_Held ?mk_Store ?kc_Store ?mk_Pool ?kc_Pool ?mk_Out ?kc_Out ?mk_Counts ?kc_Counts ?mk_Named ?kc_Named ?mk_Fresh ?kc_Fresh ?mk_Hand ?kc_Hand ?n_Counts_kept ?n_Fresh_frame ?n_Fresh_rights ?n_Fresh_slot ?n_Hand_marked ?n_Hand_standing ?n_Held_frame ?n_Held_rights ?n_Held_slot ?n_Leaf_rights ?n_Named_frame ?n_Named_name ?n_Named_part ?n_Named_rights ?n_Named_slot ?n_Out_frame ?n_Out_rights ?n_Out_slot ?n_Pool_frame_store ?n_Pool_hand ?n_Pool_length ?n_Pool_slot_store ?n_Store_contents ?n_Store_length ?n_Store_tally ?x_LeafError ?x_NoShape ?x_NoAddress ?x_NoNumber ?x_Full ?x_NoWord ?x_NoRights ?g_MOST_FRAMES ?g_MOST_NUMBERS ?g_MOST_WORDS ?b_ValueError ?b_bool ?b_int ?b_isinstance ?b_len ?b_list ?b_range ?b_zip ?ga_NoNumber ?gn_NoNumber ?be_NoNumber ?hx_NoNumber ?ha_NoNumber ?hm_NoNumber ?ga_NoWord ?gn_NoWord ?be_NoWord ?hx_NoWord ?ha_NoWord ?hm_NoWord ?ga_Full ?gn_Full ?be_Full ?hx_Full ?ha_Full ?hm_Full ?ga_NoShape ?gn_NoShape ?be_NoShape ?hx_NoShape ?ha_NoShape ?hm_NoShape ?ga_NoAddress ?gn_NoAddress ?be_NoAddress ?hx_NoAddress ?ha_NoAddress ?hm_NoAddress ?hn ?htk ?ia_Fresh ?im_Fresh ?k_Fresh_Held ?k_Fresh_Out ?ia_Held ?im_Held ?k_Held_Held ?k_Held_Out ?ia_Out ?im_Out ?k_Out_Held ?k_Out_Out ?ia_Named ?im_Named ?k_Named_Held ?k_Named_Out ?e_NoWord_NoWord ?e_NoWord_NoNumber ?e_NoWord_NoAddress ?e_NoWord_NoShape ?e_NoWord_Full ?e_NoNumber_NoWord ?e_NoNumber_NoNumber ?e_NoNumber_NoAddress ?e_NoNumber_NoShape ?e_NoNumber_Full ?e_NoAddress_NoWord ?e_NoAddress_NoNumber ?e_NoAddress_NoAddress ?e_NoAddress_NoShape ?e_NoAddress_Full ?e_NoShape_NoWord ?e_NoShape_NoNumber ?e_NoShape_NoAddress ?e_NoShape_NoShape ?e_NoShape_Full ?v_NoWord ?v_NoNumber ?v_NoAddress ?v_NoShape ?s_NoWord ?s_NoNumber ?s_NoAddress ?s_NoShape
    (case a_c_LeafError => k_is)
    (case a_c_NoShape => k_is)
    (case a_c_NoAddress => k_is)
    (case a_c_NoNumber => k_is)
    (case a_c_Full => k_is)
    (case a_c_NoWord => k_is)
    (case a_c_NoRights => k_is)
    (case a_c_Hand => k_is)
    (case a_c_Leaf => k_is)
    (case a_c_Fresh => k_is)
    (case a_c_Held => k_is)
    (case a_c_Out => k_is)
    (case a_c_Named => k_is)
    (case a_c_Counts => k_is)
    (case a_c_Store => k_is)
    (case a_c_Pool => k_is)
    (case fi_Counts_of => k_is)
    (case fi_Counts_check_taken => k_is)
    (case fi_Counts_free => k_is)
    (case fi_Counts___init__ => k_is)
    (case fi_Store_check_place => k_is)
    (case fi_Store_check_words => k_is)
    (case fi_Counts_taken => k_is)
    (case fi_Counts_more => k_is)
    (case fi_Counts_less => k_is)
    (case fi_Counts_freed => k_is)
    (case fi_Counts_told => k_is)
    (case fi_Hand_unmark => k_is)
    (case fi_Hand_go_on => k_is)
    (case fc_Leaf___init__ => k_is)
    (case rd_Leaf => k_is)
    (case sg_Leaf => k_is)
    (case fi_Store___init__ => k_is)
    (case fi_Hand___init__ => k_is)
    (case fi_Store_free => k_is)
    (case fi_Hand_chosen => k_is)
    (case fi_Store_gone => k_is)
    (case fi_Store_made => k_is)
    (case fi_Hand_mark => k_is)
    (case fi_Pool_room => k_is)
    (case fi_Pool_put_out => k_is)
    (case fi_Pool_brought_in => k_is)
    (case fi_Store_word => k_is)
    (case fi_Store_put => k_is)
    (case fi_Store_words => k_is)
    (case fi_Store_counts => k_is)
    (case fi_Hand_marks => k_is)
    (case fi_Store_count => k_is)
    (case fi_Store_more => k_is)
    (case fi_Store_less => k_is)
    (case fi_Pool_made => k_is)
    (case fi_Pool_word => k_is)
    (case fi_Pool_put => k_is)
    (case fi_Pool_fetched => k_is)
    (case fi_Pool_more => k_is)
    (case fi_Pool_less => k_is)
    (case fi_Pool_words => k_is)
    (case fi_Pool_count => k_is)
    (case fi_Pool___init__ => k_is)
    (case fi_Pool_marks => k_is)
    (case fi_Pool_slots => k_is)
    (case fi_Pool_frames => k_is)
    (case fi_Held___init__ => k_is)
    (case fi_Out___init__ => k_is)
    (case fi_Named___init__ => k_is)
    (case fi_Fresh___init__ => k_is)
    (case l1 => k_is)
    (case c1 => k_is)
    (case k1 => k_is)
    (case i1 => k_is)
    (case l2 => k_is)
    (case c2 => k_is)
    (case k2 => k_is)
    (case i2 => k_is)
    (case l3 => k_is)
    (case c3 => k_is)
    (case k3 => k_is)
    (case i3 => k_is)
    (case l4 => k_is)
    (case c4 => k_is)
    (case k4 => k_is)
    (case i4 => k_is)
    (case l5 => k_is)
    (case c5 => k_is)
    (case k5 => k_is)
    (case i5 => k_is)
    (case l6 => k_is)
    (case c6 => k_is)
    (case k6 => k_is)
    (case i6 => k_is)
    (case l7 => k_is)
    (case c7 => k_is)
    (case k7 => k_is)
    (case i7 => k_is)
    (case dt7 => k_is)
    (case l8 => k_is)
    (case c8 => k_is)
    (case k8 => k_is)
    (case i8 => k_is)
    (case a9 => k_is)
    (case l9 => k_is)
    (case c9 => k_is)
    (case k9 => k_is)
    (case a10 => k_is)
    (case l10 => k_is)
    (case c10 => k_is)
    (case k10 => k_is)
    (case l11 => k_is)
    (case c11 => k_is)
    (case k11 => k_is)
    (case i11 => k_is)
    (case l12 => k_is)
    (case c12 => k_is)
    (case k12 => k_is)
    (case i12 => k_is)
    (case l13 => k_is)
    (case c13 => k_is)
    (case k13 => k_is)
    (case i13 => k_is)
    (case l14 => k_is)
    (case c14 => k_is)
    (case k14 => k_is)
    (case i14 => k_is)
    (case l15 => k_is)
    (case c15 => k_is)
    (case k15 => k_is)
    (case i15 => k_is)
    (case l16 => k_is)
    (case c16 => k_is)
    (case k16 => k_is)
    (case i16 => k_is)
    (case l17 => k_is)
    (case c17 => k_is)
    (case k17 => k_is)
    (case i17 => k_is)
    (case dt17 => k_is)
    (case l18 => k_is)
    (case c18 => k_is)
    (case k18 => k_is)
    (case i18 => k_is)
    (case l19 => k_is)
    (case c19 => k_is)
    (case k19 => k_is)
    (case i19 => k_is)
    (case l20 => k_is)
    (case c20 => k_is)
    (case k20 => k_is)
    (case i20 => k_is)
    (case l21 => k_is)
    (case c21 => k_is)
    (case k21 => k_is)
    (case i21 => k_is)
    (case l22 => k_is)
    (case c22 => k_is)
    (case k22 => k_is)
    (case i22 => k_is)
    (case l23 => k_is)
    (case c23 => k_is)
    (case k23 => k_is)
    (case i23 => k_is)
    (case l24 => k_is)
    (case c24 => k_is)
    (case k24 => k_is)
    (case i24 => k_is)
    (case l25 => k_is)
    (case c25 => k_is)
    (case k25 => k_is)
    (case i25 => k_is)
    (case l26 => k_is)
    (case c26 => k_is)
    (case k26 => k_is)
    (case i26 => k_is)
    (case l27 => k_is)
    (case c27 => k_is)
    (case k27 => k_is)
    (case i27 => k_is)
    (case l28 => k_is)
    (case c28 => k_is)
    (case k28 => k_is)
    (case i28 => k_is)
    (case l29 => k_is)
    (case c29 => k_is)
    (case k29 => k_is)
    (case i29 => k_is)
    (case l30 => k_is)
    (case c30 => k_is)
    (case k30 => k_is)
    (case i30 => k_is)
    (case a31 => k_is)
    (case l31 => k_is)
    (case c31 => k_is)
    (case k31 => k_is)
    (case l32 => k_is)
    (case c32 => k_is)
    (case k32 => k_is)
    (case i32 => k_is)
    (case l33 => k_is)
    (case c33 => k_is)
    (case k33 => k_is)
    (case i33 => k_is)
    (case l34 => k_is)
    (case c34 => k_is)
    (case k34 => k_is)
    (case i34 => k_is)
    (case l35 => k_is)
    (case c35 => k_is)
    (case k35 => k_is)
    (case i35 => k_is)
    (case l36 => k_is)
    (case c36 => k_is)
    (case k36 => k_is)
    (case i36 => k_is)
    (case l37 => k_is)
    (case c37 => k_is)
    (case k37 => k_is)
    (case i37 => k_is)
    (case l38 => k_is)
    (case c38 => k_is)
    (case k38 => k_is)
    (case i38 => k_is)
    (case l39 => k_is)
    (case c39 => k_is)
    (case k39 => k_is)
    (case i39 => k_is)
    (case l40 => k_is)
    (case c40 => k_is)
    (case k40 => k_is)
    (case i40 => k_is)
    (case l41 => k_is)
    (case c41 => k_is)
    (case k41 => k_is)
    (case i41 => k_is)
    (case l42 => k_is)
    (case c42 => k_is)
    (case k42 => k_is)
    (case i42 => k_is)
    (case l43 => k_is)
    (case c43 => k_is)
    (case k43 => k_is)
    (case i43 => k_is)
    (case l44 => k_is)
    (case c44 => k_is)
    (case k44 => k_is)
    (case i44 => k_is)
    (case l45 => k_is)
    (case c45 => k_is)
    (case k45 => k_is)
    (case i45 => k_is)
    (case l46 => k_is)
    (case c46 => k_is)
    (case k46 => k_is)
    (case i46 => k_is)
    (case l47 => k_is)
    (case c47 => k_is)
    (case k47 => k_is)
    (case i47 => k_is)
    (case l48 => k_is)
    (case c48 => k_is)
    (case k48 => k_is)
    (case i48 => k_is)
    (case l49 => k_is)
    (case c49 => k_is)
    (case k49 => k_is)
    (case i49 => k_is)
    (case l50 => k_is)
    (case c50 => k_is)
    (case k50 => k_is)
    (case i50 => k_is)
    (case a51 => k_is)
    (case l51 => k_is)
    (case c51 => k_is)
    (case k51 => k_is)
    (case a52 => k_is)
    (case l52 => k_is)
    (case c52 => k_is)
    (case k52 => k_is)
    (case a53 => k_is)
    (case l53 => k_is)
    (case c53 => k_is)
    (case k53 => k_is)
    (case a54 => k_is)
    (case l54 => k_is)
    (case c54 => k_is)
    (case k54 => k_is)
    (case a55 => k_is)
    (case l55 => k_is)
    (case c55 => k_is)
    (case k55 => k_is)
    (case a56 => k_is)
    (case l56 => k_is)
    (case c56 => k_is)
    (case k56 => k_is)
    (case a57 => k_is)
    (case l57 => k_is)
    (case c57 => k_is)
    (case k57 => k_is)
    (case a58 => k_is)
    (case l58 => k_is)
    (case c58 => k_is)
    (case k58 => k_is)
    (case a59 => k_is)
    (case l59 => k_is)
    (case c59 => k_is)
    (case k59 => k_is)
    (case a60 => k_is)
    (case l60 => k_is)
    (case c60 => k_is)
    (case k60 => k_is)
    (case a61 => k_is)
    (case l61 => k_is)
    (case c61 => k_is)
    (case k61 => k_is)
    (case a62 => k_is)
    (case l62 => k_is)
    (case c62 => k_is)
    (case k62 => k_is)
    (case pg_Hand => k_is)
    (case hd_Hand => k_is)
    (case po_Hand => k_is)
    (case sa_Hand => k_is)
    (case pg_Leaf => k_is)
    (case hd_Leaf => k_is)
    (case po_Leaf => k_is)
    (case sa_Leaf => k_is)
    (case pg_Fresh => k_is)
    (case hd_Fresh => k_is)
    (case po_Fresh => k_is)
    (case sa_Fresh => k_is)
    (case pg_Held => k_is)
    (case hd_Held => k_is)
    (case po_Held => k_is)
    (case sa_Held => k_is)
    (case pg_Out => k_is)
    (case hd_Out => k_is)
    (case po_Out => k_is)
    (case sa_Out => k_is)
    (case pg_Named => k_is)
    (case hd_Named => k_is)
    (case po_Named => k_is)
    (case sa_Named => k_is)
    (case pg_Counts => k_is)
    (case hd_Counts => k_is)
    (case po_Counts => k_is)
    (case sa_Counts => k_is)
    (case pg_Store => k_is)
    (case hd_Store => k_is)
    (case po_Store => k_is)
    (case sa_Store => k_is)
    (case pg_Pool => k_is)
    (case hd_Pool => k_is)
    (case po_Pool => k_is)
    (case sa_Pool => k_is)
    (case mk_Held => k_is)
    (case kc_Held => k_is)
    (case mk_Store => k_is)
    (case kc_Store => k_is)
    (case mk_Pool => k_is)
    (case kc_Pool => k_is)
    (case mk_Out => k_is)
    (case kc_Out => k_is)
    (case mk_Counts => k_is)
    (case kc_Counts => k_is)
    (case mk_Named => k_is)
    (case kc_Named => k_is)
    (case mk_Fresh => k_is)
    (case kc_Fresh => k_is)
    (case mk_Hand => k_is)
    (case kc_Hand => k_is)
    (case n_Counts_kept => k_is)
    (case n_Fresh_frame => k_is)
    (case n_Fresh_rights => k_is)
    (case n_Fresh_slot => k_is)
    (case n_Hand_marked => k_is)
    (case n_Hand_standing => k_is)
    (case n_Held_frame => k_is)
    (case n_Held_rights => k_is)
    (case n_Held_slot => k_is)
    (case n_Leaf_rights => k_is)
    (case n_Named_frame => k_is)
    (case n_Named_name => k_is)
    (case n_Named_part => k_is)
    (case n_Named_rights => k_is)
    (case n_Named_slot => k_is)
    (case n_Out_frame => k_is)
    (case n_Out_rights => k_is)
    (case n_Out_slot => k_is)
    (case n_Pool_frame_store => k_is)
    (case n_Pool_hand => k_is)
    (case n_Pool_length => k_is)
    (case n_Pool_slot_store => k_is)
    (case n_Store_contents => k_is)
    (case n_Store_length => k_is)
    (case n_Store_tally => k_is)
    (case x_LeafError => k_exc)
    (case x_NoShape => k_exc)
    (case x_NoAddress => k_exc)
    (case x_NoNumber => k_exc)
    (case x_Full => k_exc)
    (case x_NoWord => k_exc)
    (case x_NoRights => k_exc)
    (case g_MOST_FRAMES => k_is)
    (case g_MOST_NUMBERS => k_is)
    (case g_MOST_WORDS => k_is)
    (case b_ValueError => k_is)
    (case b_bool => k_is)
    (case b_int => k_is)
    (case b_isinstance => k_is)
    (case b_len => k_is)
    (case b_list => k_is)
    (case b_range => k_is)
    (case b_zip => k_is)
    (case ga_NoNumber => k_is)
    (case gn_NoNumber => k_is)
    (case be_NoNumber => k_is)
    (case hx_NoNumber => k_is)
    (case ha_NoNumber => k_is)
    (case hm_NoNumber => k_is)
    (case ga_NoWord => k_is)
    (case gn_NoWord => k_is)
    (case be_NoWord => k_is)
    (case hx_NoWord => k_is)
    (case ha_NoWord => k_is)
    (case hm_NoWord => k_is)
    (case ga_Full => k_is)
    (case gn_Full => k_is)
    (case be_Full => k_is)
    (case hx_Full => k_is)
    (case ha_Full => k_is)
    (case hm_Full => k_is)
    (case ga_NoShape => k_is)
    (case gn_NoShape => k_is)
    (case be_NoShape => k_is)
    (case hx_NoShape => k_is)
    (case ha_NoShape => k_is)
    (case hm_NoShape => k_is)
    (case ga_NoAddress => k_is)
    (case gn_NoAddress => k_is)
    (case be_NoAddress => k_is)
    (case hx_NoAddress => k_is)
    (case ha_NoAddress => k_is)
    (case hm_NoAddress => k_is)
    (case hn => k_is)
    (case htk => k_is)
    (case ia_Fresh => k_is)
    (case im_Fresh => k_is)
    (case k_Fresh_Held => kit_is)
    (case k_Fresh_Out => kit_is)
    (case ia_Held => k_is)
    (case im_Held => k_is)
    (case k_Held_Held => kit_is)
    (case k_Held_Out => kit_is)
    (case ia_Out => k_is)
    (case im_Out => k_is)
    (case k_Out_Held => kit_is)
    (case k_Out_Out => kit_is)
    (case ia_Named => k_is)
    (case im_Named => k_is)
    (case k_Named_Held => kit_is)
    (case k_Named_Out => kit_is)
    (case e_NoWord_NoWord => kit_is)
    (case e_NoWord_NoNumber => kit_is)
    (case e_NoWord_NoAddress => kit_is)
    (case e_NoWord_NoShape => kit_is)
    (case e_NoWord_Full => kit_is)
    (case e_NoNumber_NoWord => kit_is)
    (case e_NoNumber_NoNumber => kit_is)
    (case e_NoNumber_NoAddress => kit_is)
    (case e_NoNumber_NoShape => kit_is)
    (case e_NoNumber_Full => kit_is)
    (case e_NoAddress_NoWord => kit_is)
    (case e_NoAddress_NoNumber => kit_is)
    (case e_NoAddress_NoAddress => kit_is)
    (case e_NoAddress_NoShape => kit_is)
    (case e_NoAddress_Full => kit_is)
    (case e_NoShape_NoWord => kit_is)
    (case e_NoShape_NoNumber => kit_is)
    (case e_NoShape_NoAddress => kit_is)
    (case e_NoShape_NoShape => kit_is)
    (case e_NoShape_Full => kit_is)
    (case v_NoWord => kit_is)
    (case v_NoNumber => kit_is)
    (case v_NoAddress => kit_is)
    (case v_NoShape => kit_is)
    (case s_NoWord => k_is)
    (case s_NoNumber => k_is)
    (case s_NoAddress => k_is)
    (case s_NoShape => k_is)
