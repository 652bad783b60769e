import PyProof.Rows.All
import Wide.All
import OpenK.AllK
import Wide.FinOn
import Lean
import PyProof.EqAt
import PyProof.EqKinds
import PyProof.TupleCall
import PyProof.StationsW
import PyProof.ExcClass2
import PyProof.ExcArgs
import PyProof.ExcArgsOwn
import PyProof.CompFree
import PyProof.CompMap
import PyProof.CompUse
import KE.LcSums
import KE.KUnpack
import KE.KDictSum
import KE.KDictLaws
import PyProof.Rows.BitMore
import KE.BitLaws
import KE.KBits
import PyProof.LongRange
import PyProof.ListRange
import KE.IntBitsLaws
import KE.KRevIter
import PyProof.Rows.Tup
import PyProof.CollectIter
import PyProof.TupleOfGen
import PyProof.DictWalks
import PyProof.StrWalks
import PyProof.ZipIter
import PyProof.TupleIter
import PyProof.WalksMore
import KE.KTurns
import PyProof.Rows.SortStr
import KE.KSortTup
import PyProof.Rows.StrClose5
import PyProof.Rows.StrClose3
import KE.RegKIsAll
import PySem.Challenge.RW_leafframe_k31_share_made
set_option Elab.async false
set_option linter.all false
set_option maxRecDepth 100000
namespace L2
open PySem PySem.Spec PyProof.Rows
abbrev Key := Sum Int Str
def keyIs : Key → Value → Bool
  | .inl k, v => Value.isInt k v
  | .inr x, v => Value.isStrOf x v
def keyH (w : World) : Key → Int
  | .inl k => hashInt k
  | .inr x => hashStr w x
theorem keyIs_shape : ∀ {k : Key} {v : Value}, keyIs k v = true → (∃ i t, k = Sum.inl i ∧ v = Value.int i t) ∨ (∃ x t, k = Sum.inr x ∧ v = Value.str x t)
  | .inl i, v, h => by
    obtain ⟨t, e⟩ := Value.isInt_shape (k := i) (v := v) h
    exact .inl ⟨i, t, rfl, e⟩
  | .inr x, v, h => by
    obtain ⟨t, e⟩ := Value.isStrOf_shape (x := x) (v := v) h
    exact .inr ⟨x, t, rfl, e⟩
theorem keyIs_int (i : Int) (t : Tok) : keyIs (.inl i) (.int i t) = true := by simp [keyIs, Value.isInt]
theorem keyIs_str (x : Str) (t : Tok) : keyIs (.inr x) (.str x t) = true := by simp [keyIs, Value.isStrOf]
theorem key_ll (a b : Int) : decide ((Sum.inl a : Key) = Sum.inl b) = (a == b) := by
  by_cases e : a = b
  · subst e; simp
  · have h : ¬ (Sum.inl a : Key) = Sum.inl b := fun q => e (Sum.inl.inj q)
    rw [decide_eq_false h]
    exact (beq_eq_false_iff_ne.mpr e).symm
theorem key_rr (a b : Str) : decide ((Sum.inr a : Key) = Sum.inr b) = decide (a = b) := by
  by_cases e : a = b
  · subst e; simp
  · have h : ¬ (Sum.inr a : Key) = Sum.inr b := fun q => e (Sum.inr.inj q)
    rw [decide_eq_false h, decide_eq_false e]
theorem key_lr (a : Int) (b : Str) : decide ((Sum.inl a : Key) = Sum.inr b) = false := decide_eq_false (fun q => nomatch q)
theorem key_rl (a : Str) (b : Int) : decide ((Sum.inr a : Key) = Sum.inl b) = false := decide_eq_false (fun q => nomatch q)
def mixKind (prog : Program) (w : World) : PySem.KeyKind prog w Key where
  is := keyIs
  hash := keyH w
  inj := fun v a b ha hb => by
    rcases keyIs_shape ha with ⟨i, t, rfl, rfl⟩ | ⟨x, t, rfl, rfl⟩
    · rcases keyIs_shape hb with ⟨j, u, rfl, e⟩ | ⟨y, u, rfl, e⟩
      · injection e with e1 _; rw [e1]
      · exact nomatch e
    · rcases keyIs_shape hb with ⟨j, u, rfl, e⟩ | ⟨y, u, rfl, e⟩
      · exact nomatch e
      · injection e with e1 _; rw [e1]
  byValue := fun k v h => by
    rcases keyIs_shape h with ⟨i, t, rfl, rfl⟩ | ⟨x, t, rfl, rfl⟩ <;> rfl
  pyHash := fun hv h => by
    rcases keyIs_shape hv with ⟨i, t, rfl, rfl⟩ | ⟨x, t, rfl, rfl⟩
    · exact wpAny_pyHash_int h
    · exact wpAny_pyHash_str h
  eqBool := fun hu hv h => by
    rcases keyIs_shape hu with ⟨i, t, rfl, rfl⟩ | ⟨x, t, rfl, rfl⟩
    · rcases keyIs_shape hv with ⟨j, u, rfl, rfl⟩ | ⟨y, u, rfl, rfl⟩
      · rw [key_ll] at h; exact wpAny_eqBool_int h
      · rw [key_lr] at h; exact SeqAt.EqAt.int_str i t y u _ _ _ _ h
    · rcases keyIs_shape hv with ⟨j, u, rfl, rfl⟩ | ⟨y, u, rfl, rfl⟩
      · rw [key_rl] at h; exact SeqAt.EqAt.str_int x t j u _ _ _ _ h
      · rw [key_rr] at h; exact wpAny_eqBool_str h
  «strs» := fun k x t v h => by
    rcases keyIs_shape h with ⟨i, u, rfl, e⟩ | ⟨y, u, rfl, e⟩
    · exact nomatch e
    · injection e with e1 _
      subst e1
      cases v <;> rfl
theorem mixKind_int (prog : Program) (w : World) (i : Int) (t : Tok) : (mixKind prog w).is (.inl i) (.int i t) = true := keyIs_int i t
theorem mixKind_str (prog : Program) (w : World) (x : Str) (t : Tok) : (mixKind prog w).is (.inr x) (.str x t) = true := keyIs_str x t
end L2
namespace L2
open PySem PySem.Spec PyProof.Rows
inductive V where
  | non | bl (b : Bool) | int (i : Int) | str (x : Str) | byt (b : Array UInt8) | flt (b : UInt64) | ref (a : Addr) | ty (n : String)
  deriving DecidableEq
def RelV : V → Value → Prop
  | .non, u => u = Value.none
  | .bl b, u => u = Value.bool b
  | .int i, u => ∃ t, u = Value.int i t
  | .str x, u => ∃ t, u = Value.str x t
  | .byt b, u => ∃ t, u = Value.bytes b t
  | .flt b, u => ∃ t, u = Value.float b t
  | .ref a, u => u = Value.ref a
  | .ty n, u => u = Value.type n
abbrev Vals : List V → List Value → Prop := Paired RelV
theorem Vals.length {xs : List V} {us : List Value} (r : Vals xs us) : xs.length = us.length := Paired.length r
theorem Vals.get : ∀ {xs : List V} {us : List Value} {i : Nat} {x : V}, Vals xs us → xs[i]? = some x → ∃ u, us[i]? = some u ∧ RelV x u
  | _, _, _, _, .nil, e => by simp at e
  | _, _, 0, _, .cons r _, e => by simp at e; subst e; exact ⟨_, rfl, r⟩
  | _, _, i + 1, x, .cons _ t, e => by
    obtain ⟨u, h1, h2⟩ := Vals.get (i := i) (x := x) t (by simpa using e)
    exact ⟨u, by simpa using h1, h2⟩
theorem Vals.set {x : V} {u : Value} (r : RelV x u) : ∀ {xs : List V} {us : List Value} (i : Nat), Vals xs us → Vals (xs.set i x) (us.set i u)
  | _, _, _, .nil => .nil
  | _, _, 0, .cons _ t => .cons r t
  | _, _, i + 1, .cons q t => .cons q (Vals.set r i t)
theorem Vals.append : ∀ {xs ys : List V} {us ws : List Value}, Vals xs us → Vals ys ws → Vals (xs ++ ys) (us ++ ws)
  | _, _, _, _, .nil, s => s
  | _, _, _, _, .cons r t, s => .cons r (Vals.append t s)
theorem Vals.take : ∀ {xs : List V} {us : List Value} (n : Nat), Vals xs us → Vals (xs.take n) (us.take n)
  | _, _, 0, _ => .nil
  | _, _, _ + 1, .nil => .nil
  | _, _, n + 1, .cons r t => .cons r (Vals.take n t)
theorem Vals.drop : ∀ {xs : List V} {us : List Value} (n : Nat), Vals xs us → Vals (xs.drop n) (us.drop n)
  | _, _, 0, r => r
  | _, _, _ + 1, .nil => .nil
  | _, _, n + 1, .cons _ t => Vals.drop n t
def RelO : Option V → Option Value → Prop
  | some v, some u => RelV v u
  | none, none => True
  | _, _ => False
def KV {κ : Type} : List (κ × V) → List (κ × Value) → Prop := Paired fun (p : κ × V) (q : κ × Value) => p.1 = q.1 ∧ RelV p.2 q.2
def kV : Key → V
  | .inl i => .int i
  | .inr x => .str x
inductive HO where
  | lst (xs : List V)
  | tup (xs : List V)
  | dK (kvs : List (Key × V)) | dT (kvs : List (List Key × V))
  | set (S : Int → Bool) (n : Nat)
  | ins (C dx : Addr) (fs : List (Str × V))
  | own (x : Addr)
  | xd (fs : List (Str × V))
  | met (f x : Addr)
  | rng (lo hi : Int)
  | frz (o : Obj) (u : HO)
  | tbl (ps : Array Value)
  | ext (φ : Heap → Prop)
abbrev Hp := Addr → Option HO
def upd (H : Hp) (a : Addr) (o : HO) : Hp := fun b => if b = a then some o else H b
theorem upd_same {H : Hp} {a : Addr} {o : HO} : upd H a o a = some o := by unfold upd; rw [if_pos rfl]
theorem upd_ne {H : Hp} {a b : Addr} {o : HO} (h : b ≠ a) : upd H a o b = H b := by unfold upd; rw [if_neg h]
theorem upd_upd {H : Hp} {a : Addr} {o u : HO} : upd (upd H a o) a u = upd H a u := by
  funext b; unfold upd; split <;> rfl
theorem ne_of {H : Hp} {a b : Addr} {o u : HO} (h : H a = some o) (h' : H b = some u) (d : o ≠ u) : a ≠ b := by
  intro e; subst e; rw [h] at h'; exact d (Option.some.inj h')
theorem ne_of_none {H : Hp} {a b : Addr} {o : HO} (h : H a = some o) (h' : H b = none) : a ≠ b := by
  intro e; subst e; rw [h] at h'; cases h'
section
variable (P : Program) (w : World)
def ObjOk (H : Hp) (h : Heap) (a : Addr) : HO → Prop
  | .lst xs => xs.length ≤ sizeLine ∧ ∃ (its : List Value) (n : Nat), Vals xs its ∧ h.get? a = some { cls := .type "list", data := .seq its.toArray n }
  | .tup xs => xs.length ≤ sizeLine ∧ ∃ its : List Value, Vals xs its ∧ IsTup h a its.toArray
  | .dK kvs => kvs.length ≤ sizeLine ∧ (a == sysModules) = false ∧ ∃ vs, KV kvs vs ∧ h.DictOf (mixKind P w) a vs
  | .dT kvs => kvs.length ≤ sizeLine ∧ (a == sysModules) = false ∧ ∃ xs : List (List Key × Addr × Value),
      Paired (fun (p : List Key × V) (q : List Key × Addr × Value) => p.1 = q.1 ∧ H q.2.1 = some (.tup (p.1.map kV)) ∧ RelV p.2 q.2.2) kvs xs ∧
      ∃ o es ep, h.get? a = some o ∧ o.ExactDict ∧ o.data = .dict es ep ∧ es.toList = xs.map (entryOfKey (tupleKind (mixKind P w))) ∧ (xs.map (·.1)).Nodup
  | .set S n => h.SetOf (intKind P w) a S n
  | .ins C dx fs => H dx = some (.own a) ∧ fs.length ≤ 1000 ∧ dx ≠ a ∧ h.get? a = some (PySem.W.instObj C dx) ∧
      ∃ mA, h.Ns1 dx mA ∧ (∀ f, RelO (fs.lookup f) (mA f)) ∧ PySem.Within mA (fs.map (·.1))
  | .own _ => ∃ o, h.get? a = some o
  | .xd fs => ∃ mA, h.Ns1 a mA ∧ ∀ f, RelO (fs.lookup f) (mA f)
  | .rng lo hi => ∃ t u v, h.get? a = some { cls := .type "range", data := .fields #[.int lo t, .int hi u, .int 1 v] }
  | .frz o u => h.get? a = some o ∧ ObjOk H h a u
  | .tbl ps => h.get? a = some { cls := .none, data := .fields ps }
  | .met f x => h.get? a = some (PySem.W.methodObj (.ref f) (.ref x))
  | .ext φ => φ h ∧ (∃ o, h.get? a = some o) ∧ ∀ h1 h2 : Heap, φ h1 → (∀ o, h1.get? a = some o → h2.get? a = some o) → φ h2
def HOk (H : Hp) (h : Heap) : Prop := ∀ a o, H a = some o → ObjOk P w H h a o
end
section
variable {P : Program} {w : World} {H H' : Hp} {h h' : Heap} {a : Addr} {o : HO}
theorem ObjOk.lt (x : ObjOk P w H h a o) : a < h.objs.size := by
  cases o with
  | lst xs => obtain ⟨_, _, _, _, e⟩ := x; exact Heap.lt_size e
  | tup xs => obtain ⟨_, _, _, p⟩ := x; exact p.lt
  | dK kvs => obtain ⟨_, _, _, _, o, _, _, e, _⟩ := x; exact Heap.lt_size e
  | dT kvs => obtain ⟨_, _, _, _, o, _, _, e, _⟩ := x; exact Heap.lt_size e
  | set S n => obtain ⟨o, _, _, _, e, _⟩ := x; exact Heap.lt_size e
  | ins C dx fs => obtain ⟨_, _, _, e, _⟩ := x; exact Heap.lt_size e
  | own y => obtain ⟨_, e⟩ := x; exact Heap.lt_size e
  | xd fs => obtain ⟨_, ⟨_, _, _, e, _⟩, _⟩ := x; exact Heap.lt_size e
  | rng lo hi => obtain ⟨_, _, _, e⟩ := x; exact Heap.lt_size e
  | frz ob u => obtain ⟨e, _⟩ := x; exact Heap.lt_size e
  | tbl ps => exact Heap.lt_size (show h.get? a = some _ from x)
  | met f y => exact Heap.lt_size (show h.get? a = some _ from x)
  | ext φ => obtain ⟨_, ⟨_, e⟩, _⟩ := x; exact Heap.lt_size e
theorem Paired.mapP {α β : Type} {F G : α → β → Prop} : ∀ {l₁ : List α} {l₂ : List β}, Paired F l₁ l₂ → (∀ a b, F a b → G a b) → Paired G l₁ l₂
  | _, _, .nil, _ => .nil
  | _, _, .cons r t, f => .cons (f _ _ r) (Paired.mapP t f)
theorem ObjOk.stay (x : ObjOk P w H h a o) (k : ∀ b u, (b = a ∨ H b = some (.own a)) → h.get? b = some u → h'.get? b = some u)
    (ho : ∀ b, H b = some (.own a) → H' b = some (.own a)) (ht : ∀ b xs, H b = some (.tup xs) → H' b = some (.tup xs)) : ObjOk P w H' h' a o := by
  induction o with
  | lst xs => obtain ⟨z, its, n, r, e⟩ := x; exact ⟨z, its, n, r, k _ _ (.inl rfl) e⟩
  | tup xs => obtain ⟨z, its, r, ob, e, c⟩ := x; exact ⟨z, its, r, ob, k _ _ (.inl rfl) e, c⟩
  | dK kvs => obtain ⟨z, y, vs, r, ob, es, ep, e, c⟩ := x; exact ⟨z, y, vs, r, ob, es, ep, k _ _ (.inl rfl) e, c⟩
  | dT kvs =>
    obtain ⟨z, y, xs, r, ob, es, ep, e, c⟩ := x
    exact ⟨z, y, xs, Paired.mapP r fun p q z => ⟨z.1, ht _ _ z.2.1, z.2.2⟩, ob, es, ep, k _ _ (.inl rfl) e, c⟩
  | set S n => obtain ⟨ob, es, ep, t, e, c⟩ := x; exact ⟨ob, es, ep, t, k _ _ (.inl rfl) e, c⟩
  | ins C dx fs =>
    obtain ⟨d, z, ne, e, mA, ⟨od, es, ep, e2, c⟩, r⟩ := x
    exact ⟨ho _ d, z, ne, k _ _ (.inl rfl) e, mA, ⟨od, es, ep, k _ _ (.inr d) e2, c⟩, r⟩
  | own y => obtain ⟨ob, e⟩ := x; exact ⟨ob, k _ _ (.inl rfl) e⟩
  | xd fs => obtain ⟨mA, ⟨od, es, ep, e, c⟩, r⟩ := x; exact ⟨mA, ⟨od, es, ep, k _ _ (.inl rfl) e, c⟩, r⟩
  | rng lo hi => obtain ⟨t, u, v, e⟩ := x; exact ⟨t, u, v, k _ _ (.inl rfl) e⟩
  | frz ob u ih => obtain ⟨e, q⟩ := x; exact ⟨k _ _ (.inl rfl) e, ih q⟩
  | tbl ps =>
    have e : h.get? a = some { cls := .none, data := .fields ps } := x
    show h'.get? a = some { cls := .none, data := .fields ps }
    exact k a _ (.inl rfl) e
  | met f y =>
    have e : h.get? a = some (PySem.W.methodObj (.ref f) (.ref y)) := x
    show h'.get? a = some (PySem.W.methodObj (.ref f) (.ref y))
    exact k a _ (.inl rfl) e
  | ext φ => obtain ⟨p, ⟨o, e⟩, st⟩ := x; exact ⟨st _ _ p fun o q => k _ _ (.inl rfl) q, ⟨o, k _ _ (.inl rfl) e⟩, st⟩
theorem HOk.lt (x : HOk P w H h) (e : H a = some o) : a < h.objs.size := (x a o e).lt
theorem HOk.fresh (x : HOk P w H h) (e : h.objs.size ≤ a) : H a = none := by
  cases q : H a with
  | none => rfl
  | some u => exact absurd (Nat.lt_of_lt_of_le (x.lt q) e) (Nat.lt_irrefl _)
theorem HOk.kept (x : HOk P w H h) (k : ∀ b u, h.get? b = some u → h'.get? b = some u) : HOk P w H h' := fun a o e =>
  (x a o e).stay (fun b u _ q => k b u q) (fun _ q => q) fun _ _ q => q
theorem HOk.laid (x : HOk P w H h) (k : ∀ b u, h.get? b = some u → h'.get? b = some u) (hp : h.objs.size ≤ a) (new : ObjOk P w (upd H a o) h' a o) : HOk P w (upd H a o) h' := fun b u e => by
  have hn := x.fresh hp
  by_cases hb : b = a
  · subst hb; rw [upd_same] at e; cases e; exact new
  · rw [upd_ne hb] at e
    exact (x b u e).stay (fun c v _ q => k c v q) (fun c q => by rw [upd_ne (ne_of_none q hn)]; exact q) fun c xs q => by rw [upd_ne (ne_of_none q hn)]; exact q
end
def Rd (H : Hp) (a : Addr) (u : HO) : Prop := H a = some u ∨ ∃ o, H a = some (.frz o u)
theorem Rd.of {H : Hp} {a : Addr} {u : HO} (h : H a = some u) : Rd H a u := .inl h
theorem Rd.ok {P : Program} {w : World} {H : Hp} {h : Heap} {a : Addr} {u : HO} (r : Rd H a u) (x : HOk P w H h) : ObjOk P w H h a u := by
  rcases r with r | ⟨o, r⟩
  · exact x a u r
  · obtain ⟨_, q⟩ := x a _ r
    exact q
def Mut : Option HO → Prop
  | some (.lst _) => True
  | some (.dK _) => True
  | some (.dT _) => True
  | some (.set _ _) => True
  | some (.ins _ _ _) => True
  | some (.ext _) => True
  | _ => False
section
variable {P : Program} {w : World} {H : Hp} {h h' : Heap} {x e : Addr} {o' : HO}
theorem HOk.write (ok : HOk P w H h) (mu : Mut (H x)) (he : e = x ∨ H e = some (.own x)) (k : ∀ b u, b ≠ e → h.get? b = some u → h'.get? b = some u) (heo : ∃ u, h'.get? e = some u)
    (new : ObjOk P w (upd H x o') h' x o') : HOk P w (upd H x o') h' := fun b u q => by
  have nown : ∀ c y, H c = some (.own y) → c ≠ x := fun c y r z => by subst z; rw [r] at mu; exact mu
  have ntup : ∀ c xs, H c = some (.tup xs) → c ≠ x := fun c xs r z => by subst z; rw [r] at mu; exact mu
  by_cases hb : b = x
  · subst hb; rw [upd_same] at q; cases q; exact new
  · rw [upd_ne hb] at q
    by_cases hbe : b = e
    · have q' : H b = some (.own x) := by
        rcases he with z | z
        · exact absurd (hbe.trans z) hb
        · rw [hbe]; exact z
      rw [q] at q'; cases q'
      obtain ⟨v, hv⟩ := heo
      exact ⟨v, by rw [hbe]; exact hv⟩
    · refine (ok b u q).stay (fun c v hc r => k c v ?_ r) (fun c r => by rw [upd_ne (nown c b r)]; exact r) fun c xs r => by rw [upd_ne (ntup c xs r)]; exact r
      rcases hc with rfl | hc
      · exact hbe
      · rintro rfl
        rcases he with z | z
        · exact nown c b hc z
        · rw [hc] at z; cases z; exact hb rfl
end
structure Un (fs ex : List Addr) (H H' : Hp) (h h' : Heap) : Prop where
  keep : ∀ b o, h.get? b = some o → H b = none → b ∉ fs → b ∉ ex → h'.get? b = some o
  slot : ∀ b o, h.get? b = some o → H b = none → b ∈ fs → b ∉ ex → ∃ sl, h'.get? b = some { o with slots := sl }
  free : ∀ b o, h.get? b = some o → H b = none → b ∉ ex → H' b = none
  there : ∀ b o, h.get? b = some o → b ∉ ex → ∃ o', h'.get? b = some o'
  tups : ∀ b xs, H b = some (.tup xs) → H' b = some (.tup xs)
  frzs : ∀ b o u, H b = some (.frz o u) → H' b = some (.frz o u)
  tbls : ∀ b ps, H b = some (.tbl ps) → ∃ more, H' b = some (.tbl (ps ++ more))
section
variable {fs fs' ex ex' : List Addr} {H H1 H2 : Hp} {h h1 h2 h' : Heap} {a x e : Addr} {o : HO}
theorem Un.any (u : Un fs ex H H1 h h1) {b : Addr} {ob : Obj} (q : h.get? b = some ob) (n : H b = none) (hx : b ∉ ex) : ∃ sl, h1.get? b = some { ob with slots := sl } := by
  by_cases hb : b ∈ fs
  · exact u.slot b ob q n hb hx
  · exact ⟨ob.slots, u.keep b ob q n hb hx⟩
theorem Un.kept (k : ∀ b u, h.get? b = some u → h'.get? b = some u) : Un fs ex H H h h' :=
  ⟨fun b ob q _ _ _ => k b ob q, fun b ob q _ _ _ => ⟨ob.slots, k b ob q⟩, fun _ _ _ n _ => n, fun b ob q _ => ⟨ob, k b ob q⟩, fun _ _ q => q, fun _ _ _ q => q, fun _ ps q => ⟨#[], by rw [q]; simp⟩⟩
theorem Un.refl : Un fs ex H H h h := Un.kept fun _ _ q => q
theorem Un.laid (k : ∀ b u, h.get? b = some u → h'.get? b = some u) (hp : h.objs.size ≤ a) (hn : H a = none) : Un fs ex H (upd H a o) h h' where
  keep := fun b u q _ _ _ => k b u q
  slot := fun b u q _ _ _ => ⟨u.slots, k b u q⟩
  free := fun b u q n _ => by rw [upd_ne (Nat.ne_of_lt (Nat.lt_of_lt_of_le (Heap.lt_size q) hp))]; exact n
  there := fun b u q _ => ⟨u, k b u q⟩
  tups := fun b xs q => by rw [upd_ne (ne_of_none q hn)]; exact q
  frzs := fun b u xs q => by rw [upd_ne (ne_of_none q hn)]; exact q
  tbls := fun b ps q => ⟨#[], by rw [upd_ne (ne_of_none q hn), q]; simp⟩
theorem Un.write (mu : Mut (H x)) (he : e = x ∨ H e = some (.own x)) (k : ∀ b u, b ≠ e → h.get? b = some u → h'.get? b = some u) (heo : ∃ u, h'.get? e = some u) : Un fs ex H (upd H x o) h h' := by
  have hx : ∀ b, H b = none → b ≠ x := fun b n z => by subst z; rw [n] at mu; exact mu
  have hb : ∀ b, H b = none → b ≠ e := fun b n z => by
    subst z
    rcases he with r | r
    · exact hx b n r
    · rw [n] at r; cases r
  have hm : ∀ b u, H b = some u → ¬ Mut (some u) → b ≠ x := fun b u q nm z => by subst z; rw [q] at mu; exact nm mu
  refine ⟨fun b u q n _ _ => k b u (hb b n) q, fun b u q n _ _ => ⟨u.slots, k b u (hb b n) q⟩, fun b u q n _ => by rw [upd_ne (hx b n)]; exact n, fun b u q _ => ?_,
    fun b xs q => by rw [upd_ne (hm b _ q fun z => z)]; exact q, fun b u xs q => by rw [upd_ne (hm b _ q fun z => z)]; exact q, fun b ps q => ⟨#[], by rw [upd_ne (hm b _ q fun z => z), q]; simp⟩⟩
  by_cases hbe : b = e
  · subst hbe; exact heo
  · exact ⟨u, k b u hbe q⟩
end
def trk (h : Heap) (H : Hp) : List Addr := (List.range h.objs.size).filter fun a => (H a).isSome
def hidT (h : Heap) (H : Hp) : Heap := PySem.W.hideAll h (trk h H)
theorem hidT_size (h : Heap) (H : Hp) : (hidT h H).objs.size = h.objs.size := PySem.W.hideAll_size _ _
theorem hidT_get {h : Heap} {H : Hp} {b : Addr} {o : Obj} (e : h.get? b = some o) (n : H b = none) : (hidT h H).get? b = some o :=
  PySem.W.hideAll_get _ e fun hm => by
    have q : (H b).isSome = true := (List.mem_filter.mp hm).2
    rw [n] at q; simp at q
theorem of_hidT {h : Heap} {H : Hp} {b : Addr} {o : Obj} (e : (hidT h H).get? b = some o) : h.get? b = some o ∧ H b = none := by
  have e' : h.get? b = some o := PySem.W.of_hideAll (trk h H) e
  refine ⟨e', ?_⟩
  cases q : H b with
  | none => rfl
  | some x =>
    have hm : b ∈ trk h H := List.mem_filter.mpr ⟨List.mem_range.mpr (Heap.lt_size e'), by simp [q]⟩
    have z : (hidT h H).get? b = none := PySem.W.hideAll_none (trk h H) hm
    rw [z] at e; cases e
end L2
namespace L2
open PySem PySem.Spec PyProof.Rows
structure Mod (K : PySem.W.Frag) (mg : Str → Option Value) (base : Heap) : Prop where
  kin : K.In base
  glob : base.Ns mainGlobals mg
  blt : ∃ mb, base.Ns builtinsNs mb ∧ ∀ x : Str, x ≠ "__name__" → mb x = bootBuiltins x
  nolimit : base.NoLimit
structure Cx where
  prog : Program
  w : World
  K : PySem.W.Frag
  mg : Str → Option Value
  base : Heap
  A : Around
  N : List Str
  s₀ : Shared
  H₀ : Hp
  env : Env
  outer : List Env
  stack : List Env
  ex : List Addr
  fn : Str → Bool
  calm : Bool
  pn : List (Addr × Obj)
  xe : Value → Shared → Prop
def frs (l : List Env) : List Addr := l.filterMap (·.frame)
abbrev Cx.fs (X : Cx) : List Addr := frs X.outer
def Vis (sc : Scope) (x : Str) : Prop := sc.names.lookup x = some .local ∨ sc.names.lookup x = some .cell ∨ sc.names.lookup x = some .free
def Loc (sc : Scope) (x : Str) : Prop := sc.names.lookup x = some .local ∨ sc.names.lookup x = some .cell
def Look (env : Env) (h : Heap) (m : Str → Option Value) (x : Str) (u : Value) : Prop :=
  (env.kindOf x = some .local ∧ m x = some u) ∨ ((env.kindOf x = some .cell ∨ env.kindOf x = some .free) ∧ ∃ c, env.cells.lookup x = some c ∧ h.IsCell c (some u))
structure Cx.Ok (X : Cx) : Prop where
  mod : Mod X.K X.mg X.base
  kind : X.env.scope.kind = .function
  glob : X.env.globals = mainGlobals
  blt : X.env.builtins = builtinsNs
  above : X.s₀.heap.objs.size ≤ X.env.locals
  inj : ∀ x y c, X.env.cells.lookup x = some c → X.env.cells.lookup y = some c → x = y
  has : ∀ x, (X.env.kindOf x = some .cell ∨ X.env.kindOf x = some .free) → ∃ c, X.env.cells.lookup x = some c
  cab : ∀ x c, X.fn x = true → X.env.cells.lookup x = some c → X.s₀.heap.objs.size ≤ c
  hd : X.calm = true → X.A.handled = none
  frames : X.A.frames = some X.stack
  stk : X.stack = X.outer ∨ (X.stack = X.env :: X.outer ∧ X.env.frame = some X.env.locals)
  exf : ∀ b ∈ X.ex, b ≠ X.env.locals ∧ ∀ x c, X.env.cells.lookup x = some c → c ≠ b
  bs : ∀ b o, X.base.get? b = some o → X.s₀.heap.get? b = some o ∧ X.H₀ b = none
  bsz : X.base.objs.size ≤ X.s₀.heap.objs.size
  noex : ∀ b o, X.base.get? b = some o → b ∉ X.ex
  exfs : ∀ b ∈ X.ex, b ∉ X.fs
  funs : X.s₀.heap.FunFrames X.base X.outer
  frf : ∀ b ∈ X.fs, X.H₀ b = none
structure Inv (X : Cx) (pins : List (Addr × Obj)) (σ : List (Option V)) (H : Hp) (s : Shared) : Prop where
  ok : X.Ok
  os : s.os = X.s₀.os
  bare : AllBare s.gens
  base : Un X.fs X.ex X.H₀ H X.s₀.heap s.heap
  loc : ∃ m, s.heap.Ns X.env.locals m ∧ ∀ (i : Nat) (x : Str) (v : V), X.N[i]? = some x → σ[i]? = some (some v) → Vis X.env.scope x → ∃ u, RelV v u ∧ Look X.env s.heap m x u
  cell : ∀ x c, X.env.cells.lookup x = some c → ∃ v, s.heap.IsCell c v
  free : H X.env.locals = none
  freeC : ∀ x c, X.env.cells.lookup x = some c → H c = none
  pin : ∀ p ∈ X.pn ++ pins, s.heap.get? p.1 = some p.2 ∧ H p.1 = none ∧ p.1 ≠ X.env.locals ∧ p.1 ∉ X.fs ∧ ∀ v, p.2.data ≠ .cell v
  hok : HOk X.prog X.w H s.heap
  len : σ.length = X.N.length
section
variable {X : Cx} {pins : List (Addr × Obj)} {σ : List (Option V)} {H H' : Hp} {s : Shared} {h' : Heap}
theorem Cx.Ok.nofr (ok : X.Ok) {b : Addr} {o : Obj} (e : X.base.get? b = some o) : b ∉ X.fs := fun hb => by
  have := (ok.funs.mem hb).1
  rw [e] at this; cases this
theorem Inv.bs (I : Inv X pins σ H s) : ∀ b o, X.base.get? b = some o → s.heap.get? b = some o ∧ H b = none := fun b o e =>
  ⟨I.base.keep b o (I.ok.bs b o e).1 (I.ok.bs b o e).2 (I.ok.nofr e) (I.ok.noex b o e), I.base.free b o (I.ok.bs b o e).1 (I.ok.bs b o e).2 (I.ok.noex b o e)⟩
theorem Inv.bk (I : Inv X pins σ H s) : ∀ b o, X.base.get? b = some o → s.heap.get? b = some o := fun b o e => (I.bs b o e).1
theorem Inv.mod (I : Inv X pins σ H s) : Mod X.K X.mg X.base := I.ok.mod
theorem Inv.kIn (I : Inv X pins σ H s) : X.K.In s.heap := I.ok.mod.kin.keeps I.bk
theorem Inv.lt (I : Inv X pins σ H s) : X.env.locals < s.heap.objs.size := let ⟨_, hn, _⟩ := I.loc; hn.lt
theorem Inv.sz (I : Inv X pins σ H s) : X.s₀.heap.objs.size ≤ s.heap.objs.size := Nat.le_trans I.ok.above (Nat.le_of_lt I.lt)
theorem Inv.nofs (I : Inv X pins σ H s) {a : Addr} (h : s.heap.objs.size ≤ a) : a ∉ X.fs := fun hb => by
  obtain ⟨_, o, ho, _⟩ := I.ok.funs.mem hb
  exact absurd (Nat.lt_of_lt_of_le (Heap.lt_size ho) (Nat.le_trans I.sz h)) (Nat.lt_irrefl _)
theorem Inv.cne (I : Inv X pins σ H s) : ∀ x c, X.env.cells.lookup x = some c → c ≠ X.env.locals := fun x c e z => by
  obtain ⟨v, o, ho, hd⟩ := I.cell x c e
  obtain ⟨m, ⟨o', es, ep, ho', hd', _⟩, _⟩ := I.loc
  rw [z, ho'] at ho; cases ho; rw [hd'] at hd; cases hd
theorem Inv.funs (I : Inv X pins σ H s) : s.heap.FunFrames X.base X.outer := by
  have all : ∀ (l : List Env), (∀ b ∈ frs l, b ∈ X.fs) → X.s₀.heap.FunFrames X.base l → s.heap.FunFrames X.base l := by
    intro l
    induction l with
    | nil => intro _ _; trivial
    | cons env r ih =>
      intro hs hl
      obtain ⟨hk, ⟨L, o, hf, hn, ho, hd⟩, hr⟩ := hl
      have hL : L ∈ X.fs := hs L (by unfold frs; rw [List.filterMap_cons, hf]; exact List.mem_cons_self)
      obtain ⟨sl, e⟩ := I.base.slot L o ho (I.ok.frf L hL) hL fun z => I.ok.exfs L z hL
      exact ⟨hk, ⟨L, _, hf, hn, e, hd⟩, ih (fun b hb => hs b (by unfold frs; rw [List.filterMap_cons, hf]; exact List.mem_cons_of_mem _ hb)) hr⟩
  exact all X.outer (fun _ hb => hb) I.ok.funs
theorem Inv.stack (I : Inv X pins σ H s) : s.heap.FunFrames X.base X.stack := by
  rcases I.ok.stk with e | ⟨e, hf⟩
  · rw [e]; exact I.funs
  · rw [e]
    obtain ⟨m, hn, _⟩ := I.loc
    refine .cons (by rw [I.ok.kind]; decide) hf hn ?_ I.funs
    exact Heap.get?_none_of_le (Nat.le_trans I.ok.bsz I.ok.above)
theorem Inv.stkSub (I : Inv X pins σ H s) : ∀ b ∈ frs X.stack, b ∈ X.env.locals :: X.fs := fun b hb => by
  rcases I.ok.stk with e | ⟨e, hf⟩
  · rw [e] at hb; exact List.mem_cons_of_mem _ hb
  · rw [e] at hb
    unfold frs at hb
    rw [List.filterMap_cons, hf] at hb
    exact hb
theorem Inv.stkFree (I : Inv X pins σ H s) : ∀ b ∈ frs X.stack, H b = none := fun b hb => by
  rcases List.mem_cons.mp (I.stkSub b hb) with e | hb
  · rw [e]; exact I.free
  · obtain ⟨_, o, ho, _⟩ := I.ok.funs.mem hb
    exact I.base.free b o ho (I.ok.frf b hb) fun z => I.ok.exfs b z hb
theorem Inv.step {g' : Array GenState} {t' : Nat} {d' : Drawn} {ch : List Addr} (I : Inv X pins σ H s)
    (hch : ∀ b ∈ ch, (b ∈ X.ex ∨ X.s₀.heap.objs.size ≤ b) ∧ b ≠ X.env.locals ∧ (∀ x c, X.env.cells.lookup x = some c → c ≠ b) ∧ ∀ p ∈ X.pn ++ pins, p.1 ≠ b)
    (keep : ∀ b o, b ≠ X.env.locals → b ∉ X.fs → b ∉ ch → s.heap.get? b = some o → H b = none → h'.get? b = some o)
    (slot : ∀ b o, b ≠ X.env.locals → b ∈ X.fs → b ∉ ch → s.heap.get? b = some o → H b = none → ∃ sl, h'.get? b = some { o with slots := sl }) (free : ∀ b o, b ∉ ch → s.heap.get? b = some o → H b = none → H' b = none)
    (there : ∀ b o, b ∉ ch → s.heap.get? b = some o → ∃ o', h'.get? b = some o')
    (tups : ∀ b xs, H b = some (.tup xs) → H' b = some (.tup xs)) (frzs : ∀ b o u, H b = some (.frz o u) → H' b = some (.frz o u)) (tbls : ∀ b ps, H b = some (.tbl ps) → ∃ more, H' b = some (.tbl (ps ++ more)))
    (ns : ∀ m, s.heap.Ns X.env.locals m → h'.Ns X.env.locals m) (hok : HOk X.prog X.w H' h') (hg : AllBare g') :
    Inv X pins σ H' { s with heap := h', gens := g', drawn := d', toks := t' } := by
  have neL : ∀ b o, X.s₀.heap.get? b = some o → b ≠ X.env.locals := fun b o e => Nat.ne_of_lt (Nat.lt_of_lt_of_le (Heap.lt_size e) I.ok.above)
  have neC : ∀ b o, X.s₀.heap.get? b = some o → b ∉ X.ex → b ∉ ch := fun b o e hx hb => by
    rcases (hch b hb).1 with z | z
    · exact hx z
    · exact absurd (Nat.lt_of_lt_of_le (Heap.lt_size e) z) (Nat.lt_irrefl _)
  have cellK : ∀ x c, X.env.cells.lookup x = some c → ∀ v, s.heap.IsCell c v → h'.IsCell c v := fun x c e v ⟨o, ho, hd⟩ => by
    have nch : c ∉ ch := fun z => (hch c z).2.2.1 x c e rfl
    by_cases hc : c ∈ X.fs
    · obtain ⟨sl, q⟩ := slot c o (I.cne x c e) hc nch ho (I.freeC x c e)
      exact ⟨_, q, hd⟩
    · exact ⟨o, keep c o (I.cne x c e) hc nch ho (I.freeC x c e), hd⟩
  refine ⟨I.ok, I.os, hg, ⟨fun b o e n hb hx => ?_, fun b o e n hb hx => ?_, fun b o e n hx => ?_, fun b o e hx => ?_, fun b xs e => tups b xs (I.base.tups b xs e), fun b o xs e => frzs b o xs (I.base.frzs b o xs e), fun b ps e => ?_⟩, ?_, fun x c e => ?_, ?_, fun x c e => ?_, fun p hp => ?_, hok, I.len⟩
  · exact keep b o (neL b o e) hb (neC b o e hx) (I.base.keep b o e n hb hx) (I.base.free b o e n hx)
  · obtain ⟨sl, e1⟩ := I.base.slot b o e n hb hx
    obtain ⟨sl', e2⟩ := slot b _ (neL b o e) hb (neC b o e hx) e1 (I.base.free b o e n hx)
    exact ⟨sl', e2⟩
  · obtain ⟨o', e1⟩ := I.base.there b o e hx
    exact free b o' (neC b o e hx) e1 (I.base.free b o e n hx)
  · obtain ⟨o', e1⟩ := I.base.there b o e hx
    exact there b o' (neC b o e hx) e1
  · obtain ⟨m1, e1⟩ := I.base.tbls b ps e
    obtain ⟨m2, e2⟩ := tbls b _ e1
    exact ⟨m1 ++ m2, by rw [e2, Array.append_assoc]⟩
  · obtain ⟨m, hn, hl⟩ := I.loc
    refine ⟨m, ns m hn, fun i x v e1 e2 e3 => ?_⟩
    obtain ⟨u, r, l⟩ := hl i x v e1 e2 e3
    refine ⟨u, r, ?_⟩
    rcases l with l | ⟨k, c, e, z⟩
    · exact .inl l
    · exact .inr ⟨k, c, e, cellK x c e _ z⟩
  · obtain ⟨v, z⟩ := I.cell x c e
    exact ⟨v, cellK x c e v z⟩
  · obtain ⟨m, ⟨o, _, _, ho, _⟩, _⟩ := I.loc
    exact free _ o (fun z => (hch _ z).2.1 rfl) ho I.free
  · obtain ⟨v, o, ho, hd⟩ := I.cell x c e
    exact free c o (fun z => (hch c z).2.2.1 x c e rfl) ho (I.freeC x c e)
  · obtain ⟨e, n, ne, nf, d⟩ := I.pin p hp
    have nch : p.1 ∉ ch := fun z => (hch p.1 z).2.2.2 p hp rfl
    exact ⟨keep p.1 p.2 ne nf nch e n, free p.1 p.2 nch e n, ne, nf, d⟩
theorem Inv.un {t' : Nat} (I : Inv X pins σ H s) (u : Un X.fs [] H H' s.heap h') (hok : HOk X.prog X.w H' h') : Inv X pins σ H' { s with heap := h', toks := t' } := by
  obtain ⟨m, ⟨o, es, ep, ho, r⟩, _⟩ := id I.loc
  obtain ⟨sl, hL⟩ := u.any ho I.free (by simp)
  exact I.step (g' := s.gens) (d' := s.drawn) (ch := []) (fun _ z => nomatch z) (fun b o _ hb _ e n => u.keep b o e n hb (by simp)) (fun b o _ hb _ e n => u.slot b o e n hb (by simp)) (fun b o _ e n => u.free b o e n (by simp)) (fun b o _ e => u.there b o e (by simp)) u.tups u.frzs u.tbls (fun m' hm => by
    obtain ⟨o', es', ep', ho', r'⟩ := hm
    rw [ho] at ho'; cases ho'
    exact ⟨_, es', ep', hL, r'⟩) hok I.bare
theorem Inv.call {g' : Array GenState} {t' : Nat} {d' : Drawn} {ch : List Addr} (I : Inv X pins σ H s) (u : Un (frs X.stack) ch H H' s.heap h') (hok : HOk X.prog X.w H' h') (hg : AllBare g')
    (hch : ∀ b ∈ ch, (b ∈ X.ex ∨ X.s₀.heap.objs.size ≤ b) ∧ b ≠ X.env.locals ∧ (∀ x c, X.env.cells.lookup x = some c → c ≠ b) ∧ ∀ p ∈ X.pn ++ pins, p.1 ≠ b) :
    Inv X pins σ H' { s with heap := h', gens := g', drawn := d', toks := t' } := by
  obtain ⟨m, ⟨o, es, ep, ho, r⟩, _⟩ := id I.loc
  obtain ⟨sl, hL⟩ := u.any ho I.free fun z => (hch _ z).2.1 rfl
  exact I.step (ch := ch) hch (fun b o hL hb hc e n => u.keep b o e n (fun z => (List.mem_cons.mp (I.stkSub b z)).elim hL hb) hc) (fun b o _ _ hc e n => u.any e n hc) (fun b o hc e n => u.free b o e n hc) (fun b o hc e => u.there b o e hc) u.tups u.frzs u.tbls (fun m' hm => by
    obtain ⟨o', es', ep', ho', r'⟩ := hm
    rw [ho] at ho'; cases ho'
    exact ⟨_, es', ep', hL, r'⟩) hok hg
theorem Inv.turned {t' : Nat} {it : Addr} (I : Inv X pins σ H s) (k : ∀ b o, b ≠ it → s.heap.get? b = some o → h'.get? b = some o) (hn : H it = none) (hL : it ≠ X.env.locals)
    (h1 : it ∈ X.ex ∨ X.s₀.heap.objs.size ≤ it) (h2 : ∀ x c, X.env.cells.lookup x = some c → c ≠ it) (h3 : ∀ p ∈ X.pn ++ pins, p.1 ≠ it) : Inv X pins σ H { s with heap := h', toks := t' } := by
  have nit : ∀ b u, H b = some u → b ≠ it := fun b u e z => by rw [z, hn] at e; cases e
  refine I.step (g' := s.gens) (d' := s.drawn) (ch := [it]) (fun b hb => ?_) (fun b o _ _ hc e _ => k b o (fun z => hc (by simp [z])) e) (fun b o _ _ hc e _ => ⟨o.slots, k b o (fun z => hc (by simp [z])) e⟩) (fun _ _ _ _ n => n)
    (fun b o hc e => ⟨o, k b o (fun z => hc (by simp [z])) e⟩) (fun _ _ e => e) (fun _ _ _ e => e) (fun b ps e => ⟨#[], by rw [e]; simp⟩) (fun m hm => ?_) (fun b u e => ?_) I.bare
  · have e : b = it := by simpa using hb
    subst e
    exact ⟨h1, hL, h2, h3⟩
  · obtain ⟨o, es, ep, ho, r⟩ := hm
    exact ⟨o, es, ep, k _ o (Ne.symm hL) ho, r⟩
  · refine (I.hok b u e).stay (fun c v hc q => k c v ?_ q) (fun _ q => q) fun _ _ q => q
    rcases hc with z | z
    · rw [z]; exact nit b u e
    · exact nit c _ z
theorem Inv.tok (I : Inv X pins σ H s) (t : Nat) : Inv X pins σ H { s with toks := t } := I.un (h' := s.heap) (t' := t) Un.refl I.hok
theorem Inv.kept {t' : Nat} (I : Inv X pins σ H s) (k : ∀ b u, s.heap.get? b = some u → h'.get? b = some u) : Inv X pins σ H { s with heap := h', toks := t' } := I.un (Un.kept k) (I.hok.kept k)
theorem Inv.laid {a : Addr} {o : HO} {t' : Nat} (I : Inv X pins σ H s) (k : ∀ b u, s.heap.get? b = some u → h'.get? b = some u) (hp : s.heap.objs.size ≤ a) (new : ObjOk X.prog X.w (upd H a o) h' a o) :
    Inv X pins σ (upd H a o) { s with heap := h', toks := t' } := I.un (Un.laid k hp (I.hok.fresh hp)) (I.hok.laid k hp new)
theorem Inv.write {x e : Addr} {o : HO} {t' : Nat} (I : Inv X pins σ H s) (mu : Mut (H x)) (he : e = x ∨ H e = some (.own x)) (k : ∀ b u, b ≠ e → s.heap.get? b = some u → h'.get? b = some u) (heo : ∃ u, h'.get? e = some u)
    (new : ObjOk X.prog X.w (upd H x o) h' x o) : Inv X pins σ (upd H x o) { s with heap := h', toks := t' } := I.un (Un.write mu he k heo) (I.hok.write mu he k heo new)
theorem Inv.pins_of {pins' : List (Addr × Obj)} (I : Inv X pins σ H s) (h : ∀ p ∈ pins', s.heap.get? p.1 = some p.2 ∧ H p.1 = none ∧ p.1 ≠ X.env.locals ∧ p.1 ∉ X.fs ∧ ∀ v, p.2.data ≠ .cell v) : Inv X pins' σ H s :=
  ⟨I.ok, I.os, I.bare, I.base, I.loc, I.cell, I.free, I.freeC, fun p hp => (List.mem_append.mp hp).elim (fun z => I.pin p (List.mem_append_left _ z)) (h p), I.hok, I.len⟩
theorem nodup_ix {N : List Str} (hN : N.Nodup) {i j : Nat} {x : Str} (a : N[i]? = some x) (b : N[j]? = some x) : i = j := by
  obtain ⟨h1, e1⟩ := List.getElem?_eq_some_iff.mp a
  obtain ⟨h2, e2⟩ := List.getElem?_eq_some_iff.mp b
  exact (List.getElem_inj hN).mp (e1.trans e2.symm)
theorem store_ok2 {M : Model} {A : Around} {E : Value → Shared → Prop} {i : Nat} {x : Str} {v : V} {u : Value} {Q : Unit → Shared → Prop} (I : Inv X pins σ H s) (hN : X.N.Nodup) (hi : X.N[i]? = some x) (hx : Loc X.env.scope x) (r : RelV v u)
    (h : ∀ s', Inv X pins (σ.set i (some v)) H s' → (∃ a, Heap.SameBut a s.heap s'.heap ∧ (a = X.env.locals ∨ X.env.cells.lookup x = some a)) → Q () s') (hf : X.fn x = true ∨ X.env.scope.names.lookup x = some .local := by first | exact .inl rfl | exact .inr rfl | assumption) : wpAny M A (storeName X.env x u) Q E s := by
  obtain ⟨m, hn, hl⟩ := id I.loc
  have hcls : (X.env.scope.kind == .class || (X.env.scope.kind == .module && X.env.locals != X.env.globals)) = false := by rw [I.ok.kind]; rfl
  have hiσ : i < σ.length := by rw [I.len]; exact (List.getElem?_eq_some_iff.mp hi).1
  have cne := I.cne
  have tracked : ∀ {a : Addr} {h' : Heap}, (∃ o, s.heap.get? a = some o ∧ H a = none) → Heap.SameBut a s.heap h' → HOk X.prog X.w H h' := fun {a h'} ha hs b ob e => by
    obtain ⟨_, _, hfree⟩ := ha
    refine (I.hok b ob e).stay (fun c w' hc q => (hs.2 c ?_).trans q) (fun _ q => q) fun _ _ q => q
    rintro rfl
    rcases hc with rfl | hc
    · rw [hfree] at e; cases e
    · rw [hfree] at hc; cases hc
  rcases hx with hk | hk
  · refine wpAny_storeName_local hk hn (fun h' hn' hs => ?_) hcls
    obtain ⟨oL, _, _, hoL, _⟩ := id hn
    refine h _ ⟨I.ok, I.os, I.bare, ⟨fun b o e n hb hx => ?_, fun b o e n hb hx => ?_, I.base.free, fun b o e hx => ?_, I.base.tups, I.base.frzs, I.base.tbls⟩, ⟨_, hn', fun j y v' e1 e2 e3 => ?_⟩, fun y c e => ?_, I.free, I.freeC, fun p hp => ?_, tracked ⟨oL, hoL, I.free⟩ hs, by simpa using I.len⟩ ⟨_, hs, .inl rfl⟩
    · exact (hs.2 b (Nat.ne_of_lt (Nat.lt_of_lt_of_le (Heap.lt_size e) I.ok.above))).trans (I.base.keep b o e n hb hx)
    · obtain ⟨sl, e1⟩ := I.base.slot b o e n hb hx
      exact ⟨sl, (hs.2 b (Nat.ne_of_lt (Nat.lt_of_lt_of_le (Heap.lt_size e) I.ok.above))).trans e1⟩
    · obtain ⟨o', e1⟩ := I.base.there b o e hx
      exact ⟨o', (hs.2 b (Nat.ne_of_lt (Nat.lt_of_lt_of_le (Heap.lt_size e) I.ok.above))).trans e1⟩
    · by_cases hj : j = i
      · subst hj
        rw [hi] at e1; cases e1
        rw [List.getElem?_set_self hiσ] at e2
        cases e2
        exact ⟨u, r, .inl ⟨hk, by simp⟩⟩
      · rw [List.getElem?_set_ne (Ne.symm hj)] at e2
        obtain ⟨u', r', q⟩ := hl j y v' e1 e2 e3
        refine ⟨u', r', ?_⟩
        rcases q with ⟨k, e⟩ | ⟨k, c, e, z⟩
        · refine .inl ⟨k, ?_⟩
          have : y ≠ x := fun e => hj (nodup_ix hN e1 (e ▸ hi))
          simp [this, e]
        · exact .inr ⟨k, c, e, z.sameBut hs (cne y c e)⟩
    · obtain ⟨w', z⟩ := I.cell y c e
      exact ⟨w', z.sameBut hs (cne y c e)⟩
    · obtain ⟨e, n, ne, nf, d⟩ := I.pin p hp
      exact ⟨(hs.2 p.1 ne).trans e, n, ne, nf, d⟩
  · have hfn : X.fn x = true := by
      rcases hf with z | z
      · exact z
      · rw [z] at hk; cases hk
    obtain ⟨c, hc⟩ := I.ok.has x (.inl hk)
    obtain ⟨w', z⟩ := I.cell x c hc
    refine wpAny_storeName_cell I.ok.kind hk hc z (fun h' hc' hs => ?_)
    obtain ⟨oc, hoc, hocd⟩ := id z
    refine h { s with heap := h' } ⟨I.ok, I.os, I.bare, ⟨fun b o e n hb hx => ?_, fun b o e n hb hx => ?_, I.base.free, fun b o e hx => ?_, I.base.tups, I.base.frzs, I.base.tbls⟩, ⟨m, hn.sameBut hs (Ne.symm (cne x c hc)), fun j y v' e1 e2 e3 => ?_⟩, fun y c' e => ?_, I.free, I.freeC, fun p hp => ?_, tracked ⟨oc, hoc, I.freeC x c hc⟩ hs, by simpa using I.len⟩ ⟨c, hs, .inr hc⟩
    · exact (hs.2 b (Nat.ne_of_lt (Nat.lt_of_lt_of_le (Heap.lt_size e) (I.ok.cab x c hfn hc)))).trans (I.base.keep b o e n hb hx)
    · obtain ⟨sl, e1⟩ := I.base.slot b o e n hb hx
      exact ⟨sl, (hs.2 b (Nat.ne_of_lt (Nat.lt_of_lt_of_le (Heap.lt_size e) (I.ok.cab x c hfn hc)))).trans e1⟩
    · obtain ⟨o', e1⟩ := I.base.there b o e hx
      exact ⟨o', (hs.2 b (Nat.ne_of_lt (Nat.lt_of_lt_of_le (Heap.lt_size e) (I.ok.cab x c hfn hc)))).trans e1⟩
    · by_cases hj : j = i
      · subst hj
        rw [hi] at e1; cases e1
        rw [List.getElem?_set_self hiσ] at e2
        cases e2
        exact ⟨u, r, .inr ⟨.inl hk, c, hc, hc'⟩⟩
      · rw [List.getElem?_set_ne (Ne.symm hj)] at e2
        obtain ⟨u', r', q⟩ := hl j y v' e1 e2 e3
        refine ⟨u', r', ?_⟩
        rcases q with q | ⟨k, c', e, z'⟩
        · exact .inl q
        · refine .inr ⟨k, c', e, z'.sameBut hs ?_⟩
          rintro rfl
          exact hj (nodup_ix hN e1 (I.ok.inj _ _ _ e hc ▸ hi))
    · by_cases hcc : c' = c
      · subst hcc; exact ⟨_, hc'⟩
      · obtain ⟨w2, z2⟩ := I.cell y c' e
        exact ⟨w2, z2.sameBut hs hcc⟩
    · obtain ⟨e, n, ne, nf, d⟩ := I.pin p hp
      refine ⟨(hs.2 p.1 ?_).trans e, n, ne, nf, d⟩
      intro q
      rw [q, hoc] at e
      have q' : oc = p.2 := Option.some.inj e
      exact d w' (by rw [← q']; exact hocd)
theorem store_ok {M : Model} {A : Around} {E : Value → Shared → Prop} {i : Nat} {x : Str} {v : V} {u : Value} {Q : Unit → Shared → Prop} (I : Inv X pins σ H s) (hN : X.N.Nodup) (hi : X.N[i]? = some x) (hx : Loc X.env.scope x) (r : RelV v u)
    (h : ∀ s', Inv X pins (σ.set i (some v)) H s' → Q () s') (hf : X.fn x = true ∨ X.env.scope.names.lookup x = some .local := by first | exact .inl rfl | exact .inr rfl | assumption) : wpAny M A (storeName X.env x u) Q E s :=
  store_ok2 I hN hi hx r (fun s' I' _ => h s' I') hf
theorem Inv.call' {s' : Shared} {ch : List Addr} (I : Inv X pins σ H s) (ho : s'.os = s.os) (u : Un (frs X.stack) ch H H' s.heap s'.heap) (hok : HOk X.prog X.w H' s'.heap) (hg : AllBare s'.gens)
    (hch : ∀ b ∈ ch, (b ∈ X.ex ∨ X.s₀.heap.objs.size ≤ b) ∧ b ≠ X.env.locals ∧ (∀ x c, X.env.cells.lookup x = some c → c ≠ b) ∧ ∀ p ∈ X.pn ++ pins, p.1 ≠ b) : Inv X pins σ H' s' := by
  obtain ⟨h', g', d', t', o'⟩ := s'
  have e : o' = s.os := ho
  subst e
  exact I.call (g' := g') (t' := t') (d' := d') u hok hg hch
end
abbrev XK := Value → Option Addr → Hp → Prop
abbrev St := List (Option V)
abbrev VK := V → Hp → Prop
abbrev TE := St → Hp → VK → Prop
abbrev TT := St → Hp → (Bool → Hp → Prop) → Prop
abbrev TA := St → Hp → (List V → Hp → Prop) → Prop
structure Ends where
  nx : St → Hp → Prop
  rt : VK
  bk : St → Hp → Prop := fun _ _ => False
  ct : St → Hp → Prop := fun _ _ => False
abbrev TS := Ends → St → Hp → Prop
def EP (X : Cx) (pins : List (Addr × Obj)) (σ : St) (Q : VK) (u : Value) (s' : Shared) : Prop := ∃ v H', Inv X pins σ H' s' ∧ RelV v u ∧ Q v H'
def TP (X : Cx) (pins : List (Addr × Obj)) (σ : St) (Q : Bool → Hp → Prop) (b : Bool) (s' : Shared) : Prop := ∃ H', Inv X pins σ H' s' ∧ Q b H'
def AP (X : Cx) (pins : List (Addr × Obj)) (σ : St) (Q : List V → Hp → Prop) (us : List Value) (s' : Shared) : Prop := ∃ vs H', Inv X pins σ H' s' ∧ Vals vs us ∧ Q vs H'
def SP (X : Cx) (pins : List (Addr × Obj)) (D : Ends) (f : Flow) (s' : Shared) : Prop :=
  match f with
  | .next => ∃ σ' H', Inv X pins σ' H' s' ∧ D.nx σ' H'
  | .brk => ∃ σ' H', Inv X pins σ' H' s' ∧ D.bk σ' H'
  | .cont => ∃ σ' H', Inv X pins σ' H' s' ∧ D.ct σ' H'
  | .ret u => ∃ v σ' H', Inv X pins σ' H' s' ∧ RelV v u ∧ D.rt v H'
def PE (X : Cx) (e : Expr) (t : TE) : Prop :=
  ∀ (pins : List (Addr × Obj)) (s : Shared) (σ : St) (H : Hp) (Q : VK), Inv X pins σ H s → t σ H Q → wpAny (model X.prog X.w) X.A (eval e X.env) (EP X pins σ Q) X.xe s
def PT (X : Cx) (e : Expr) (t : TT) : Prop :=
  ∀ (pins : List (Addr × Obj)) (s : Shared) (σ : St) (H : Hp) (Q : Bool → Hp → Prop), Inv X pins σ H s → t σ H Q → wpAny (model X.prog X.w) X.A (isTrue e X.env (eval e X.env)) (TP X pins σ Q) X.xe s
def PW (X : Cx) (e : Expr) (t : TT) : Prop :=
  ∀ (whole : Sem Value) (pins : List (Addr × Obj)) (s : Shared) (σ : St) (H : Hp) (Q : Bool → Hp → Prop), Inv X pins σ H s → t σ H Q → wpAny (model X.prog X.w) X.A (isTrue e X.env whole) (TP X pins σ Q) X.xe s
theorem PW.pt {X : Cx} {e : Expr} {t : TT} (h : PW X e t) : PT X e t := h _
def PA (X : Cx) (es : List Expr) (t : TA) : Prop :=
  ∀ (pos : Pos) (pins : List (Addr × Obj)) (s : Shared) (σ : St) (H : Hp) (Q : List V → Hp → Prop), Inv X pins σ H s → t σ H Q → wpAny (model X.prog X.w) X.A (spliced (backTo pos (starEach es X.env))) (AP X pins σ Q) X.xe s
def PS (X : Cx) (st : Stmt) (t : TS) : Prop :=
  ∀ (pins : List (Addr × Obj)) (s : Shared) (σ : St) (H : Hp) (D : Ends), Inv X pins σ H s → t D σ H → wpAny (model X.prog X.w) X.A (exec st X.env) (SP X pins D) X.xe s
def PSs (X : Cx) (st : List Stmt) (t : TS) : Prop :=
  ∀ (pins : List (Addr × Obj)) (s : Shared) (σ : St) (H : Hp) (D : Ends), Inv X pins σ H s → t D σ H → wpAny (model X.prog X.w) X.A (execs st X.env) (SP X pins D) X.xe s
theorem thn {α : Type} {t : Sem α} {Q Q' : α → Shared → Prop} {M : Model} {A : Around} {E : Value → Shared → Prop} {s : Shared} (h : wpAny M A t Q E s) (hQ : ∀ a s, Q a s → Q' a s) : wpAny M A t Q' E s := wpAny_mono h hQ fun _ _ x => x
end L2
namespace L2
open PySem PySem.Spec PyProof.Rows
section
variable {X : Cx}
def tVar (i : Nat) : TE := fun σ H Q => ∃ v, σ[i]? = some (some v) ∧ Q v H
def tC (v : V) : TE := fun _ H Q => Q v H
theorem pe_var {i : Nat} {x : Str} {pos : Pos} (hN : X.N[i]? = some x) (hv : Vis X.env.scope x) (hd : (x == ("__debug__" : Str)) = false := by decide) (hcd : (x == ("__classdict__" : Str)) = false := by decide) : PE X (.Name x pos) (tVar i) := by
  intro pins s σ H Q I h
  obtain ⟨v, e, h⟩ := h
  obtain ⟨m, hn, hl⟩ := I.loc
  obtain ⟨u, r, l⟩ := hl i x v hN e hv
  have fin : EP X pins σ Q u s := ⟨v, H, I, r, h⟩
  rcases l with ⟨hk, hm⟩ | ⟨hk, c, hc, hcell⟩
  · exact wpAny_Name (wpAny_loadName_local I.ok.kind hk hn hm fin) hd
  · rcases hk with hk | hk
    · exact wpAny_Name (wpAny_loadName_cell I.ok.kind hk hc hcell fin) hd
    · exact wpAny_Name (wpAny_loadName_free I.ok.kind hk hc hcell fin hcd) hd
theorem pe_int {i j pos} : PE X (.Constant (.int i) j pos) (tC (.int i)) := fun _ _ _ H _ I h => wpAny_Constant_int ⟨.int i, H, I.tok _, ⟨_, rfl⟩, h⟩
theorem pe_bl {b j pos} : PE X (.Constant (.bool b) j pos) (tC (.bl b)) := fun _ _ _ H _ I h => Constant_bool ⟨.bl b, H, I, rfl, h⟩
theorem pe_non {j pos} : PE X (.Constant .none j pos) (tC .non) := fun _ _ _ H _ I h => Constant_none ⟨.non, H, I, rfl, h⟩
theorem pe_str {x j pos} : PE X (.Constant (.str x) j pos) (tC (.str x)) := fun _ _ _ H _ I h => Calls.Constant_str ⟨.str x, H, I.tok _, ⟨_, rfl⟩, h⟩
def Gl (X : Cx) (x : Str) : Prop := X.env.kindOf x = some .globalImplicit
theorem ld_glob {E : Value → Shared → Prop} {pins : List (Addr × Obj)} {s : Shared} {σ : St} {H : Hp} {x : Str} {u : Value} {pos : Pos} {Q : Value → Shared → Prop} (I : Inv X pins σ H s) (hg : Gl X x) (hm : X.mg x = some u) (h : Q u s)
    (hd : (x == ("__debug__" : Str)) = false := by decide) : wpAny (model X.prog X.w) X.A (eval (.Name x pos) X.env) Q E s :=
  Calls.Name_function_global I.ok.kind hg (Calls.loadGlobal_global (by rw [I.ok.glob]; exact I.mod.glob.keeps I.bk) hm h) hd
theorem ld_blt {E : Value → Shared → Prop} {pins : List (Addr × Obj)} {s : Shared} {σ : St} {H : Hp} {x : Str} {u : Value} {pos : Pos} {Q : Value → Shared → Prop} (I : Inv X pins σ H s) (hg : Gl X x) (hm : X.mg x = none) (hv : bootBuiltins x = some u) (h : Q u s)
    (hn : x ≠ "__name__" := by decide) (hd : (x == ("__debug__" : Str)) = false := by decide) : wpAny (model X.prog X.w) X.A (eval (.Name x pos) X.env) Q E s := by
  obtain ⟨mb, h1, h2⟩ := I.mod.blt
  exact Calls.Name_function_global I.ok.kind hg (Calls.loadGlobal_builtin (by rw [I.ok.glob]; exact I.mod.glob.keeps I.bk) hm (by rw [I.ok.blt]; exact h1.keeps I.bk) ((h2 x hn).trans hv) h) hd
theorem pe_glob {x : Str} {v : V} {u : Value} {pos : Pos} (hg : Gl X x) (hm : X.mg x = some u) (r : RelV v u) (hd : (x == ("__debug__" : Str)) = false := by decide) : PE X (.Name x pos) (tC v) :=
  fun _ _ _ H _ I h => ld_glob I hg hm ⟨v, H, I, r, h⟩ hd
theorem pe_bltn {x : Str} {v : V} {u : Value} {pos : Pos} (hg : Gl X x) (hm : X.mg x = none) (hv : bootBuiltins x = some u) (r : RelV v u) (hn : x ≠ "__name__" := by decide) (hd : (x == ("__debug__" : Str)) = false := by decide) : PE X (.Name x pos) (tC v) :=
  fun _ _ _ H _ I h => ld_blt I hg hm hv ⟨v, H, I, r, h⟩ hn hd
variable {a b : Expr} {ta tb : TE} {pos : Pos}
def tB (t : TE) : TT := fun σ H Q => t σ H fun x H1 => ∃ c, x = .bl c ∧ Q c H1
theorem pt_val {e : Expr} {t : TE} (h : PE X e t) (he : ∀ whole, isTrue e X.env whole = (do let v ← whole; standAt e.pos; holding [v] (truthy v)) := by intro _; rfl) : PT X e (tB t) := by
  intro pins s σ H Q I hw
  refine isTrue_plain (thn (h pins s σ H _ I hw) fun v s1 ⟨x, H1, I1, r1, q1⟩ => ?_) (he _)
  obtain ⟨d, rfl, q⟩ := q1
  cases r1
  exact wpAny_truthy_bool ⟨H1, I1, q⟩
variable {tA tB' : TT} {rest : List Expr}
def tAnd (t u : TT) : TT := fun σ H Q => t σ H fun c H1 => if c = true then u σ H1 Q else Q false H1
def tOr (t u : TT) : TT := fun σ H Q => t σ H fun c H1 => if c = true then Q true H1 else u σ H1 Q
def tNot (t : TT) : TT := fun σ H Q => t σ H fun c H1 => Q (!c) H1
theorem pw_and1 (ha : PT X a tA) : PW X (.BoolOp .And [a] pos) tA := by
  intro wh pins s σ H Q I h
  refine isTrue_and (thn (ha pins s σ H Q I h) fun c s1 e => ?_)
  cases c with
  | true => exact isTrue_and_nil e
  | false => exact e
theorem pw_or1 (ha : PT X a tA) : PW X (.BoolOp .Or [a] pos) tA := by
  intro wh pins s σ H Q I h
  refine isTrue_or (thn (ha pins s σ H Q I h) fun c s1 e => ?_)
  cases c with
  | false => exact isTrue_or_nil e
  | true => exact e
theorem pw_and (ha : PT X a tA) (hb : PW X (.BoolOp .And (b :: rest) pos) tB') : PW X (.BoolOp .And (a :: b :: rest) pos) (tAnd tA tB') := by
  intro wh pins s σ H Q I h
  refine isTrue_and (thn (ha pins s σ H _ I h) fun c s1 ⟨H1, I1, q1⟩ => ?_)
  cases c with
  | true => exact hb wh pins s1 σ H1 Q I1 q1
  | false => exact ⟨H1, I1, q1⟩
theorem pw_or (ha : PT X a tA) (hb : PW X (.BoolOp .Or (b :: rest) pos) tB') : PW X (.BoolOp .Or (a :: b :: rest) pos) (tOr tA tB') := by
  intro wh pins s σ H Q I h
  refine isTrue_or (thn (ha pins s σ H _ I h) fun c s1 ⟨H1, I1, q1⟩ => ?_)
  cases c with
  | true => exact ⟨H1, I1, q1⟩
  | false => exact hb wh pins s1 σ H1 Q I1 q1
theorem pt_not (ha : PT X a tA) : PT X (.UnaryOp .Not a pos) (tNot tA) := by
  intro pins s σ H Q I h
  exact isTrue_not (ha pins s σ H (fun c H1 => Q (!c) H1) I h)
def tAndV (ta tb : TE) : TE := fun σ H Q => ta σ H fun x H1 => ∃ c, x = .bl c ∧ if c = true then tb σ H1 Q else Q (.bl false) H1
def tNotV (ta : TE) : TE := fun σ H Q => ta σ H fun x H1 => ∃ c, x = .bl c ∧ Q (.bl (!c)) H1
theorem pe_one {op} {t : TE} (h : PE X a t) : PE X (.BoolOp op [a] pos) t := fun pins s σ H Q I hw => BoolOp_one (h pins s σ H Q I hw)
theorem pe_and (ha : PE X a ta) (hb : PE X (.BoolOp .And (b :: rest) pos) tb) : PE X (.BoolOp .And (a :: b :: rest) pos) (tAndV ta tb) := by
  intro pins s σ H Q I h
  refine BoolOp_and (thn (ha pins s σ H _ I h) fun v s1 ⟨x, H1, I1, r1, q1⟩ => ?_)
  obtain ⟨c, rfl, q1⟩ := q1
  cases r1
  refine wpAny_truthy_bool ?_
  cases c with
  | true => exact hb pins s1 σ H1 Q I1 q1
  | false => exact ⟨.bl false, H1, I1, rfl, q1⟩
theorem pe_not (ha : PE X a ta) : PE X (.UnaryOp .Not a pos) (tNotV ta) := by
  intro pins s σ H Q I h
  refine UnaryOp_ (thn (ha pins s σ H _ I h) fun v s1 ⟨x, H1, I1, r1, q1⟩ => ?_)
  obtain ⟨c, rfl, q1⟩ := q1
  cases r1
  exact not_of (wpAny_truthy_bool ⟨.bl (!c), H1, I1, rfl, q1⟩)
end
end L2
namespace L2
open PySem PySem.Spec PyProof.Rows
def SqL (K : PySem.W.Frag) (H : Hp) (a : Addr) (xs : List V) : Prop :=
  Rd H a (.lst xs) ∨
    ∃ (o : Obj) (its : Array Value) (n : Nat), K.lookup a = some o ∧ o.cls = .type "list" ∧ o.dict = none ∧ o.data = .seq its n ∧ its.size ≤ sizeLine ∧ Vals xs its.toList
def SqT (K : PySem.W.Frag) (H : Hp) (a : Addr) (xs : List V) : Prop :=
  Rd H a (.tup xs) ∨
    ∃ (o : Obj) (its : Array Value) (n : Nat), K.lookup a = some o ∧ o.cls = .type "tuple" ∧ o.data = .seq its n ∧ its.size ≤ sizeLine ∧ Vals xs its.toList
def absV : Value → Option V
  | .none => some .non
  | .bool b => some (.bl b)
  | .int i _ => some (.int i)
  | .str x _ => some (.str x)
  | .bytes b _ => some (.byt b)
  | .float b _ => some (.flt b)
  | .ref a => some (.ref a)
  | .type n => some (.ty n)
  | _ => none
theorem RelV.abs {x : V} {u : Value} (r : RelV x u) : absV u = some x := by
  cases x with
  | non => cases r; rfl
  | bl _ => cases r; rfl
  | int _ => obtain ⟨t, rfl⟩ := r; rfl
  | str _ => obtain ⟨t, rfl⟩ := r; rfl
  | byt _ => obtain ⟨t, rfl⟩ := r; rfl
  | flt _ => obtain ⟨t, rfl⟩ := r; rfl
  | ref _ => cases r; rfl
  | ty _ => cases r; rfl
theorem RelV.inj {x y : V} {u : Value} (r : RelV x u) (q : RelV y u) : x = y := Option.some.inj (r.abs.symm.trans q.abs)
theorem Vals.inj : ∀ {xs ys : List V} {us : List Value}, Vals xs us → Vals ys us → xs = ys
  | _, _, _, .nil, .nil => rfl
  | _, _, _, .cons r t, .cons r' t' => by rw [r.inj r', Vals.inj t t']
section
variable {X : Cx} {pins : List (Addr × Obj)} {σ : St} {H : Hp} {s : Shared} {a : Addr} {xs ys : List V}
theorem SqL.of {K : PySem.W.Frag} (h : H a = some (.lst xs)) : SqL K H a xs := .inl (.inl h)
theorem SqT.of {K : PySem.W.Frag} (h : H a = some (.tup xs)) : SqT K H a xs := .inl (.inl h)
theorem Inv.list (I : Inv X pins σ H s) (h : SqL X.K H a xs) : ∃ its : List Value, Vals xs its ∧ PlainL s.heap a its.toArray ∧ xs.length ≤ sizeLine := by
  rcases h with h | ⟨o, its, n, hk, hc, hd, hs, hz, r⟩
  · obtain ⟨z, its, n, r, e⟩ := h.ok I.hok
    exact ⟨its, r, ⟨_, n, e, rfl, rfl, rfl⟩, z⟩
  · refine ⟨its.toList, r, ⟨o, n, I.kIn a o hk, hc, hd, by simpa using hs⟩, ?_⟩
    have e := r.length
    simp only [Array.length_toList] at e
    omega
theorem Inv.tuple (I : Inv X pins σ H s) (h : SqT X.K H a xs) : ∃ its : List Value, Vals xs its ∧ IsTup s.heap a its.toArray ∧ xs.length ≤ sizeLine := by
  rcases h with h | ⟨o, its, n, hk, hc, hs, hz, r⟩
  · obtain ⟨z, its, r, p⟩ := h.ok I.hok
    exact ⟨its, r, p, z⟩
  · refine ⟨its.toList, r, ⟨o, I.kIn a o hk, hc, n, by simpa using hs⟩, ?_⟩
    have e := r.length
    simp only [Array.length_toList] at e
    omega
theorem Inv.list_inj (I : Inv X pins σ H s) (h : SqL X.K H a xs) (h' : SqL X.K H a ys) : xs = ys := by
  obtain ⟨its, r, ⟨o, n, e, _, _, d⟩, _⟩ := I.list h
  obtain ⟨its', r', ⟨o', n', e', _, _, d'⟩, _⟩ := I.list h'
  rw [e] at e'; cases e'
  rw [d] at d'
  injection d' with d1 _
  have : its = its' := by simpa using congrArg Array.toList d1
  subst this
  exact r.inj r'
end
section
variable {X : Cx} {pins : List (Addr × Obj)} {σ : St} {H : Hp} {s : Shared} {E : Value → Shared → Prop}
end
section
variable {X : Cx} {st : Stmt} {rest : List Stmt} {t u : TS} {e : Expr} {te : TE} {pos : Pos}
def tNext : TS := fun D σ H => D.nx σ H
def tSeq (t u : TS) : TS := fun D σ H => t { D with nx := u D } σ H
theorem pss_nil : PSs X [] tNext := fun _ _ σ H _ I h => wpAny_execs_nil ⟨σ, H, I, h⟩
theorem pss_cons (h1 : PS X st t) (h2 : PSs X rest u) : PSs X (st :: rest) (tSeq t u) := by
  intro pins s σ H D I h
  refine wpAny_execs_cons (thn (h1 pins s σ H { D with nx := u D } I h) fun f s1 q => ?_)
  cases f with
  | next =>
    obtain ⟨σ', H', I', q⟩ := q
    exact h2 pins s1 σ' H' D I' q
  | ret v => exact q
  | brk => exact q
  | cont => exact q
theorem pss_one (h1 : PS X st t) : PSs X [st] t := by
  intro pins s σ H D I h
  refine wpAny_execs_cons (thn (h1 pins s σ H D I h) fun f s1 q => ?_)
  cases f with
  | next => exact wpAny_execs_nil q
  | ret v => exact q
  | brk => exact q
  | cont => exact q
theorem Inv.quiet {pins : List (Addr × Obj)} {σ : St} {H : Hp} {s : Shared} (I : Inv X pins σ H s) : interactive X.env = false := by simp [interactive, I.ok.kind]
def tDrop (te : TE) : TS := fun D σ H => te σ H fun _ H1 => D.nx σ H1
theorem ps_expr (he : PE X e te) (hs : swapsWith e none pos.line X.env = pure false := by rfl) : PS X (.Expr e pos) (tDrop te) := by
  intro pins s σ H D I h
  exact wpAny_Expr_any (thn (he pins s σ H _ I h) fun v s1 ⟨x, H1, I1, r1, q1⟩ => ⟨σ, H1, I1, q1⟩) I.quiet hs
def tRet (te : TE) : TS := fun D σ H => te σ H D.rt
theorem ps_ret (he : PE X e te) : PS X (.Return (some e) pos) (tRet te) := by
  intro pins s σ H D I h
  exact wpAny_Return_some (thn (he pins s σ H _ I h) fun v s1 ⟨x, H1, I1, r1, q1⟩ => ⟨x, σ, H1, I1, r1, q1⟩)
def tIfS (c : TT) (t u : TS) : TS := fun D σ H => c σ H fun b H1 => if b = true then t D σ H1 else u D σ H1
theorem ps_if {c : Expr} {a b : List Stmt} {tc : TT} (hc : PT X c tc) (ha : PSs X a t) (hb : PSs X b u) : PS X (.If c a b pos) (tIfS tc t u) := by
  intro pins s σ H D I h
  refine wpAny_If (thn (hc pins s σ H _ I h) fun d s1 ⟨H1, I1, q1⟩ => ?_)
  cases d with
  | true => exact ha pins s1 σ H1 D I1 q1
  | false => exact hb pins s1 σ H1 D I1 q1
end
abbrev TG := V → St → Hp → (St → Hp → Prop) → Prop
def PG (X : Cx) (target : Expr) (t : TG) : Prop :=
  ∀ (pins : List (Addr × Obj)) (s : Shared) (σ : St) (H : Hp) (v : V) (u : Value) (Q : St → Hp → Prop), Inv X pins σ H s → RelV v u → t v σ H Q →
    wpAny (model X.prog X.w) X.A (assign target X.env u) (fun _ s' => ∃ σ' H', Inv X pins σ' H' s' ∧ Q σ' H') X.xe s
abbrev TSet := V → V → V → Hp → (Hp → Prop) → Prop
def PSet (X : Cx) (t : TSet) : Prop :=
  ∀ (pins : List (Addr × Obj)) (s : Shared) (σ : St) (H : Hp) (o i v : V) (ov iv u : Value) (Q : Hp → Prop), Inv X pins σ H s → RelV o ov → RelV i iv → RelV v u → t o i v H Q →
    wpAny (model X.prog X.w) X.A (setItem ov iv u) (fun _ s' => ∃ H', Inv X pins σ H' s' ∧ Q H') X.xe s
section
variable {X : Cx} {pos : Pos}
def gName (i : Nat) : TG := fun v σ H Q => Q (σ.set i (some v)) H
theorem pg_name {i : Nat} {x : Str} (hN : X.N.Nodup) (hi : X.N[i]? = some x) (hx : Loc X.env.scope x) (hf : X.fn x = true ∨ X.env.scope.names.lookup x = some .local := by first | exact .inl rfl | exact .inr rfl | assumption) : PG X (.Name x pos) (gName i) := by
  intro pins s σ H v u Q I r h
  exact wpAny_assign_Name (store_ok I hN hi hx r (fun s' I' => ⟨_, H, I', h⟩) hf)
def gSub (to ti : TE) (t : TSet) : TG := fun v σ H Q => to σ H fun o H1 => ti σ H1 fun i H2 => t o i v H2 fun H3 => Q σ H3
theorem pg_sub {o i : Expr} {to ti : TE} {t : TSet} (ho : PE X o to) (hi : PE X i ti) (hs : PSet X t)
    (ha : ∀ v, assign (.Subscript o i pos) X.env v = (do
      let ov ← holding [v] (eval o X.env)
      let iv ← holding [v, ov] (eval i X.env)
      standAt pos
      holding [v, ov, iv] (setItem ov iv v)
      release [v, ov, iv] []) := by intro _; rfl) : PG X (.Subscript o i pos) (gSub to ti t) := by
  intro pins s σ H v u Q I r h
  rw [ha]
  refine wpAny_bind (wpAny_holding (thn (ho pins s σ H _ I h) fun ov s1 ⟨x, H1, I1, r1, q1⟩ => ?_))
  refine wpAny_bind (wpAny_holding (thn (hi pins s1 σ H1 _ I1 q1) fun iv s2 ⟨y, H2, I2, r2, q2⟩ => ?_))
  refine wpAny_bind (wpAny_standAt (wpAny_bind (wpAny_holding (thn (hs pins s2 σ H2 x y v ov iv u _ I2 r1 r2 r q2) fun _ s3 ⟨H3, I3, q3⟩ => ?_))))
  exact wpAny_release ⟨σ, H3, I3, q3⟩
def tAsg (te : TE) (g : TG) : TS := fun D σ H => te σ H fun x H1 => g x σ H1 D.nx
theorem ps_asg {tg e : Expr} {te : TE} {g : TG} (he : PE X e te) (hg : PG X tg g) (hs : swapsWithSole [tg] e pos.line X.env = pure false := by rfl) (hw : swappedStores [tg] e X.env = pure none := by rfl)
    (h1 : (assignEach [tg] X.env).map (·.2) = [assign tg X.env] := by rfl) : PS X (.Assign [tg] e pos) (tAsg te g) := by
  intro pins s σ H D I h
  refine wpAny_Assign_stores (thn (he pins s σ H _ I h) fun v s1 ⟨x, H1, I1, r1, q1⟩ => ?_) hs hw
  rw [h1]
  exact thn (hg pins s1 σ H1 x v _ I1 r1 q1) fun _ s2 q => q
theorem ps_set {i : Nat} {x : Str} {e : Expr} {te : TE} {pos' : Pos} (hN : X.N.Nodup) (hi : X.N[i]? = some x) (hx : Loc X.env.scope x) (he : PE X e te) (hs : swapsWith e (some (.Name x pos')) pos.line X.env = pure false := by rfl) (hf : X.fn x = true ∨ X.env.scope.names.lookup x = some .local := by first | exact .inl rfl | exact .inr rfl | assumption) :
    PS X (.Assign [.Name x pos'] e pos) (tAsg te (gName i)) := by
  intro pins s σ H D I h
  refine wpAny_Assign_Name (thn (he pins s σ H _ I h) fun v s1 ⟨y, H1, I1, r1, q1⟩ => ?_) hs
  exact store_ok I1 hN hi hx r1 (fun s2 I2 => ⟨_, H1, I2, q1⟩) hf
end
section
variable {X : Cx} {pos : Pos}
end
structure It where
  go : Nat → Hp → Prop
  yld : Nat → Hp → V → Hp → Prop
  stop : Nat → Hp → Prop
def FpOk (X : Cx) (pins : List (Addr × Obj)) (H : Hp) (b : Addr) : Prop :=
  H b = none ∧ b ≠ X.env.locals ∧ b ∉ X.fs ∧ (b ∈ X.ex ∨ X.s₀.heap.objs.size ≤ b) ∧ (∀ x c, X.env.cells.lookup x = some c → c ≠ b) ∧ ∀ p ∈ X.pn ++ pins, p.1 ≠ b
theorem Inv.fpOk {X : Cx} {pins : List (Addr × Obj)} {σ : St} {H H' : Hp} {s : Shared} {b : Addr} (I : Inv X pins σ H s) (hb : s.heap.objs.size ≤ b) (hn : H' b = none) : FpOk X pins H' b := by
  refine ⟨hn, Nat.ne_of_gt (Nat.lt_of_lt_of_le I.lt hb), I.nofs hb, .inr (Nat.le_trans I.sz hb), fun x c e z => ?_, fun p hp z => ?_⟩
  · obtain ⟨v, q⟩ := I.cell x c e
    exact absurd (Nat.lt_of_lt_of_le q.lt (by rw [z]; exact hb)) (Nat.lt_irrefl _)
  · exact absurd (Nat.lt_of_lt_of_le (Heap.lt_size (I.pin p hp).1) (by rw [z]; exact hb)) (Nat.lt_irrefl _)
structure Turn (P : Program) (w : World) (K : PySem.W.Frag) (tg : Expr) (J : It) (fp : List Addr) (it : Addr) (tn : Nat → Heap → Prop) : Prop where
  mem : it ∈ fp
  obj : ∀ i h, tn i h → ∀ b ∈ fp, ∃ o, h.get? b = some o ∧ ∀ v, o.data ≠ .cell v
  keep : ∀ i h h', tn i h → (∀ b ∈ fp, ∀ o, h.get? b = some o → h'.get? b = some o) → tn i h'
  item : ∀ (X : Cx), X.prog = P → X.w = w → X.K = K → X.calm = true → ∀ (i : Nat) (pins : List (Addr × Obj)) (s : Shared) (σ : St) (H : Hp) (E : Value → Shared → Prop), Inv X pins σ H s → (∀ b ∈ fp, FpOk X pins H b) → tn i s.heap → J.go i H →
    wpAny (model P w) X.A (pyNext (.ref it)) (fun r s1 => ∃ u, r = some u ∧
      wpAny (model P w) X.A (letOwnedTupleGo tg (.ref it) u) (fun _ s2 => ∃ x H', Inv X pins σ H' s2 ∧ RelV x u ∧ J.yld i H x H' ∧ tn (i + 1) s2.heap ∧ ∀ b ∈ fp, H' b = none) E s1) E s
  done : ∀ (X : Cx), X.prog = P → X.w = w → X.K = K → X.calm = true → ∀ (i : Nat) (pins : List (Addr × Obj)) (s : Shared) (σ : St) (H : Hp) (E : Value → Shared → Prop), Inv X pins σ H s → (∀ b ∈ fp, FpOk X pins H b) → tn i s.heap → J.stop i H →
    wpAny (model P w) X.A (pyNext (.ref it)) (fun r s1 => r = none ∧ Inv X pins σ H s1) E s
  self : ∀ (A : Around) (i : Nat) (s : Shared) (Q : Value → Shared → Prop) (E : Value → Shared → Prop), tn i s.heap → Q (.ref it) s → wpAny (model P w) A (pyIter (.ref it)) Q E s
abbrev TI := St → Hp → (It → Hp → Prop) → Prop
def PIE (X : Cx) (pins : List (Addr × Obj)) (σ : St) (tg : Expr) (R : It → Hp → Prop) (itv : Value) (s2 : Shared) : Prop :=
  ∃ (it : Addr) (fp : List Addr) (tn : Nat → Heap → Prop) (J : It) (H' : Hp), itv = .ref it ∧ Inv X pins σ H' s2 ∧ Turn X.prog X.w X.K tg J fp it tn ∧ tn 0 s2.heap ∧ (∀ b ∈ fp, FpOk X pins H' b) ∧ R J H'
def PI (X : Cx) (tg iter : Expr) (wi : TI) : Prop :=
  ∀ (pins : List (Addr × Obj)) (s : Shared) (σ : St) (H : Hp) (R : It → Hp → Prop), Inv X pins σ H s → wi σ H R →
    wpAny (model X.prog X.w) X.A (eval iter X.env) (fun v s1 => wpAny (model X.prog X.w) X.A (pyIter v) (PIE X pins σ tg R) X.xe s1) X.xe s
theorem go_of {M : Model} {A : Around} {E : Value → Shared → Prop} {s : Shared} {tg : Expr} {it : Addr} {u : Value} {o : Obj} {n : String} {vs : Array Value} {Q : Unit → Shared → Prop} (ho : s.heap.get? it = some o) (hc : o.cls = .type n) (hd : o.data = .fields vs)
    (hn : ["enumerate", "zip", "dict_itemiterator", "dict_reverseitemiterator", "odict_iterator", "itertools.zip_longest", "itertools.pairwise"].contains n = false) (hQ : Q () s) : wpAny M A (letOwnedTupleGo tg (.ref it) u) Q E s := by
  unfold letOwnedTupleGo
  cases tg <;> first
    | exact wpAny_pure hQ
    | (cases u <;> first
        | exact wpAny_pure hQ
        | (refine wpAny_bind (wpAny_load ho ?_)
           rw [hc, hd]
           show wpAny M A (if (["enumerate", "zip", "dict_itemiterator", "dict_reverseitemiterator", "odict_iterator", "itertools.zip_longest", "itertools.pairwise"].contains n && vs[0]? == some (rawInt _)) = true then _ else _) Q E s
           rw [if_neg (by intro h; rw [hn, Bool.false_and] at h; cases h)]
           exact wpAny_pure hQ))
def Itl (K : PySem.W.Frag) (a : Addr) : It :=
  ⟨fun i H => ∃ xs x, SqL K H a xs ∧ xs[i]? = some x, fun i H x H' => H' = H ∧ ∀ xs, SqL K H a xs → xs[i]? = some x, fun i H => ∃ xs, SqL K H a xs ∧ xs.length ≤ i⟩
def Itr (lo : Int) (n : Nat) : It := ⟨fun i _ => i < n, fun i H x H' => H' = H ∧ x = .int (lo + i), fun i _ => n ≤ i⟩
theorem turn_list {P : Program} {w : World} {K : PySem.W.Frag} {tg : Expr} (a it : Addr) : Turn P w K tg (Itl K a) [it] it (fun i h => h.IsListIter it a i) where
  mem := by simp
  obj := fun i h st b hb => by
    have e : b = it := by simpa using hb
    subst e
    obtain ⟨o, e, c, d⟩ := st
    exact ⟨o, e, fun v z => by rw [d] at z; cases z⟩
  keep := fun i h h' st k => st.at fun o e => k it (by simp) o e
  item := by
    intro X hP hw hK hc i pins s σ H E I hf st hg
    subst hP hw hK
    obtain ⟨xs, x, hq, hx⟩ := hg
    obtain ⟨its, rv, p, hz⟩ := I.list hq
    obtain ⟨u, hu, ru⟩ := rv.get hx
    obtain ⟨f0, f1, f2, f3, f4, f5⟩ := hf it (by simp)
    refine wpAny_pyNext_list_item st p.isList (x := u) (by simpa using hu) fun h' st' sb => ?_
    have I1 : Inv X pins σ H { s with heap := h' } := I.turned (t' := s.toks) (fun b o hb e => (sb.2 b hb).trans e) f0 f1 f3 f4 f5
    obtain ⟨o, e, c, d⟩ := id st'
    exact ⟨u, rfl, go_of (s := { s with heap := h' }) e c d (by decide) ⟨x, H, I1, ru, ⟨rfl, fun ys hy => by rw [I.list_inj hy hq]; exact hx⟩, st', fun b hb => (hf b hb).1⟩⟩
  done := by
    intro X hP hw hK hc i pins s σ H E I hf st hg
    subst hP hw hK
    obtain ⟨xs, hq, hx⟩ := hg
    obtain ⟨its, rv, p, hz⟩ := I.list hq
    obtain ⟨f0, f1, f2, f3, f4, f5⟩ := hf it (by simp)
    have hl := rv.length
    exact wpAny_pyNext_list_end (I.ok.hd hc) st p.isList (by simp; omega) fun h' eb => ⟨rfl, I.turned (t' := s.toks) (fun b o hb e => eb b o hb e) f0 f1 f3 f4 f5⟩
  self := fun _ _ _ _ _ st h => wpAny_pyIter_listiter st h
theorem turn_range {P : Program} {w : World} {K : PySem.W.Frag} {tg : Expr} (it : Addr) (lo : Int) (n : Nat) : Turn P w K tg (Itr lo n) [it] it (fun i h => IsRangeIter h it (lo + (i : Nat) * 1) ((n : Int) - (i : Nat)) 1) where
  mem := by simp
  obj := fun i h st b hb => by
    have e : b = it := by simpa using hb
    subst e
    exact ⟨_, st, fun v z => by
      have z' : Data.fields _ = Data.cell v := z
      cases z'⟩
  keep := fun i h h' st k => k it (by simp) _ st
  item := by
    intro X hP hw hK hc i pins s σ H E I hf st hg
    subst hP hw hK
    obtain ⟨f0, f1, f2, f3, f4, f5⟩ := hf it (by simp)
    have W := Walks.range (prog := X.prog) (w := X.w) (I.ok.hd hc) it lo 1 n
    refine W.item i s _ _ hg st fun v h' tk hv st' kk => ?_
    obtain ⟨t, rfl⟩ := hv
    have I1 : Inv X pins σ H { s with heap := h', toks := tk } := I.turned (fun b o hb e => kk b o (by simpa using hb) e) f0 f1 f3 f4 f5
    refine ⟨_, rfl, go_of (s := { s with heap := h', toks := tk }) (n := "range_iterator") st' rfl rfl (by decide) ⟨.int (lo + i), H, I1, ⟨t, ?_⟩, ⟨rfl, rfl⟩, st', fun b hb => (hf b hb).1⟩⟩
    rw [Int.mul_one]
  done := by
    intro X hP hw hK hc i pins s σ H E I hf st hg
    subst hP hw hK
    obtain ⟨f0, f1, f2, f3, f4, f5⟩ := hf it (by simp)
    exact wpAny_pyNext_range_end (I.ok.hd hc) st (by have : n ≤ i := hg; omega) fun h' eb => ⟨rfl, I.turned (t' := s.toks) (fun b o hb e => eb b o hb e) f0 f1 f3 f4 f5⟩
  self := fun _ _ _ _ _ st h => wpAny_pyIter_rangeiter st h
end L2
namespace L2
open PySem PySem.Spec PyProof.Rows
section
variable {X : Cx} {tg : Expr}
def iList (K : PySem.W.Frag) (tl : TE) : TI := fun σ H R => tl σ H fun x H1 => ∃ a, x = .ref a ∧ (∃ xs, SqL K H1 a xs) ∧ R (Itl K a) H1
theorem pi_list {l : Expr} {tl : TE} (hl : PE X l tl) : PI X tg l (iList X.K tl) := by
  intro pins s σ H R I h
  refine thn (hl pins s σ H _ I h) fun v s1 ⟨x, H1, I1, r1, q1⟩ => ?_
  obtain ⟨a, e, ⟨xs, hq⟩, q⟩ := q1
  subst e
  cases r1
  obtain ⟨its, rv, p, hz⟩ := I1.list hq
  refine wpAny_pyIter_list p.isList ?_
  refine ⟨s1.heap.objs.size, [s1.heap.objs.size], _, _, H1, rfl, I1.kept (t' := s1.toks) fun b o e => Heap.get?_push_of_some _ e, turn_list a _, ⟨_, Heap.get?_push_size _ rfl, rfl, rfl⟩, fun b hb => ?_, q⟩
  have e : b = s1.heap.objs.size := by simpa using hb
  subst e
  exact I1.fpOk (Nat.le_refl _) (I1.hok.fresh (Nat.le_refl _))
theorem range_it {pins : List (Addr × Obj)} {σ : St} {H : Hp} {s : Shared} {R : It → Hp → Prop} {E : Value → Shared → Prop} {lo hi : Int} {t u v : Tok} {tk : Nat} (I : Inv X pins σ H s) (h1 : -(2 ^ 62) ≤ lo) (h2 : lo < 2 ^ 62) (h3 : -(2 ^ 62) ≤ hi) (h4 : hi < 2 ^ 62)
    (q : R (Itr lo (hi - lo).toNat) H) : wpAny (model X.prog X.w) X.A (pyIter (.ref s.heap.objs.size)) (PIE X pins σ tg R) E { s with heap := s.heap.push { cls := .type "range", data := .fields #[.int lo t, .int hi u, .int 1 v] }, toks := tk } := by
  refine wpAny_pyIter_range (IsRange.new ..) (small_one h1 h2 h3 h4) ?_
  have I1 : Inv X pins σ H { s with heap := s.heap.push { cls := .type "range", data := .fields #[.int lo t, .int hi u, .int 1 v] }, toks := tk } := I.kept fun b o e => Heap.get?_push_of_some _ e
  refine ⟨(s.heap.push { cls := .type "range", data := .fields #[.int lo t, .int hi u, .int 1 v] }).objs.size, [(s.heap.push { cls := .type "range", data := .fields #[.int lo t, .int hi u, .int 1 v] }).objs.size], _, _, H, rfl,
    I1.kept (t' := tk) fun b o e => Heap.get?_push_of_some _ e, turn_range _ lo (hi - lo).toNat, ?_, fun b hb => ?_, q⟩
  · have e1 : lo + ((0 : Nat) : Int) * 1 = lo := by simp
    have e2 : (((hi - lo).toNat : Nat) : Int) - ((0 : Nat) : Int) = Builtin.Range.rangeSize lo hi 1 := by rw [rangeSize_one]; split <;> omega
    show IsRangeIter _ _ (lo + ((0 : Nat) : Int) * 1) ((((hi - lo).toNat : Nat) : Int) - ((0 : Nat) : Int)) 1
    rw [e1, e2]
    exact Heap.get?_push_size _ rfl
  · have e : b = (s.heap.push { cls := .type "range", data := .fields #[.int lo t, .int hi u, .int 1 v] }).objs.size := by simpa using hb
    subst e
    exact I1.fpOk (Nat.le_refl _) (I1.hok.fresh (Nat.le_refl _))
def iRng1 (ta : TA) : TI := fun σ H R => ta σ H fun vs H1 => ∃ j : Int, vs = [.int j] ∧ -(2 ^ 62) ≤ j ∧ j < 2 ^ 62 ∧ R (Itr 0 j.toNat) H1
def iRng2 (ta : TA) : TI := fun σ H R => ta σ H fun vs H1 => ∃ i j : Int, vs = [.int i, .int j] ∧ (-(2 ^ 62) ≤ i ∧ i < 2 ^ 62 ∧ -(2 ^ 62) ≤ j ∧ j < 2 ^ 62) ∧ R (Itr i (j - i).toNat) H1
theorem pi_range1 {a : Expr} {ta : TA} {p pos : Pos} (hg : Gl X "range") (hm : X.mg "range" = none) (ha : PA X [a] ta) (hs : starEach [a] X.env = [(false, eval a X.env)] := by rfl) : PI X tg (.Call (.Name "range" p) [a] [] pos) (iRng1 ta) := by
  intro pins s σ H R I h
  refine Call_ (ld_blt I hg hm boot_range (PyProof.Rows.callWith_type1 (thn (ha pos pins s σ H _ I h) fun us s1 ⟨vs, H1, I1, r1, q1⟩ => ?_) hs rfl))
  obtain ⟨j, e, q1, q2, q⟩ := q1
  subst e
  cases r1 with
  | cons r rr =>
    cases rr
    obtain ⟨t, rfl⟩ := r
    exact call_range_1 (range_it I1 (by omega) (by omega) q1 q2 (by simpa using q))
theorem pi_range2 {a b : Expr} {ta : TA} {p pos : Pos} (hg : Gl X "range") (hm : X.mg "range" = none) (ha : PA X [a, b] ta) (hs : starEach [a, b] X.env = [(false, eval a X.env), (false, eval b X.env)] := by rfl) (hs2 : starEach [b] X.env = [(false, eval b X.env)] := by rfl) :
    PI X tg (.Call (.Name "range" p) [a, b] [] pos) (iRng2 ta) := by
  intro pins s σ H R I h
  refine Call_ (ld_blt I hg hm boot_range (PyProof.Rows.callWith_type1 (thn (ha pos pins s σ H _ I h) fun us s1 ⟨vs, H1, I1, r1, q1⟩ => ?_) (by rw [hs, hs2]) (by rw [hs2]; rfl)))
  obtain ⟨i, j, e, ⟨q1, q2, q3, q4⟩, q⟩ := q1
  subst e
  cases r1 with
  | cons r rr =>
    cases rr with
    | cons r' rr =>
      cases rr
      obtain ⟨t, rfl⟩ := r
      obtain ⟨t', rfl⟩ := r'
      exact call_range_2 (range_it I1 q1 q2 q3 q4 q)
def tFor (wi : TI) (g : TG) (tb : TS) : TS := fun D σ H => wi σ H fun J H1 => ∃ W : Nat → Nat → St → Hp → Prop, (∃ m, W 0 m σ H1) ∧ ∀ i m σ H, W i m σ H →
  (J.stop i H ∧ D.nx σ H) ∨ (J.go i H ∧ ∃ N : St → Hp → Prop, (∀ σ' H', N σ' H' → ∃ m', m' < m ∧ W (i + 1) m' σ' H') ∧ ∀ x H', J.yld i H x H' → g x σ H' fun σ2 H2 => tb { D with nx := N, ct := N, bk := D.nx } σ2 H2)
def pinsAt (fp : List Addr) (h : Heap) : List (Addr × Obj) := fp.filterMap fun b => (h.get? b).map fun o => (b, o)
theorem mem_pinsAt {fp : List Addr} {h : Heap} {b : Addr} {o : Obj} (hb : b ∈ fp) (e : h.get? b = some o) : (b, o) ∈ pinsAt fp h := List.mem_filterMap.mpr ⟨b, hb, by rw [e]; rfl⟩
theorem of_pinsAt {fp : List Addr} {h : Heap} {p : Addr × Obj} (hp : p ∈ pinsAt fp h) : p.1 ∈ fp ∧ h.get? p.1 = some p.2 := by
  obtain ⟨b, hb, e⟩ := List.mem_filterMap.mp hp
  cases q : h.get? b with
  | none => rw [q] at e; cases e
  | some o =>
    rw [q] at e
    have e' : (b, o) = p := Option.some.inj e
    subst e'
    exact ⟨hb, q⟩
theorem Inv.pinned {pins : List (Addr × Obj)} {σ : St} {H : Hp} {s : Shared} {fp : List Addr} (I : Inv X pins σ H s) (hf : ∀ b ∈ fp, FpOk X pins H b) (ho : ∀ b ∈ fp, ∃ o, s.heap.get? b = some o ∧ ∀ v, o.data ≠ .cell v) : Inv X (pins ++ pinsAt fp s.heap) σ H s :=
  I.pins_of fun p hp => (List.mem_append.mp hp).elim (fun z => I.pin p (List.mem_append_right _ z)) fun z => by
    obtain ⟨hb, e⟩ := of_pinsAt z
    obtain ⟨f0, f1, f2, _⟩ := hf p.1 hb
    obtain ⟨o, e', d⟩ := ho p.1 hb
    rw [e] at e'; cases e'
    exact ⟨e, f0, f1, f2, d⟩
theorem Inv.unpinned {pins pl : List (Addr × Obj)} {σ : St} {H : Hp} {s : Shared} (I : Inv X (pins ++ pl) σ H s) : Inv X pins σ H s := I.pins_of fun p hp => I.pin p (List.mem_append_right _ (List.mem_append_left _ hp))
theorem ps_for {iter : Expr} {body : List Stmt} {wi : TI} {g : TG} {tb : TS} {pos : Pos} (hp : PassesOwn (model X.prog X.w) X.A X.env X.xe) (hc : X.calm = true) (hi : PI X tg iter wi) (hg : PG X tg g) (hb : PSs X body tb)
    (hs : ∀ x, foldedSetIterable iter X.env x = pure x := by intro _; rfl) : PS X (.For tg iter body [] pos) (tFor wi g tb) := by
  intro pins s σ H D I h
  refine wpAny_For (thn (hi pins s σ H _ I h) fun v s1 h1 => thn h1 fun itv s2 h2 => ?_) hs
  obtain ⟨it, fp, tn, J, H2, e, I2, T, st2, f2, W, ⟨m0, w0⟩, turn⟩ := h2
  subst e
  have stat : ∀ {H' : Hp}, (∀ b ∈ fp, H' b = none) → ∀ b ∈ fp, FpOk X pins H' b := fun hn b hb => ⟨hn b hb, (f2 b hb).2⟩
  refine codeAny_forLoop_any (fun n s' => ∃ i σ' H', Inv X pins σ' H' s' ∧ tn i s'.heap ∧ (∀ b ∈ fp, H' b = none) ∧ W i n σ' H') ?_ m0 ⟨0, σ, H2, I2, st2, fun b hb => (f2 b hb).1, w0⟩
  rintro n s3 ⟨i, σ3, H3, I3, st3, fr3, w3⟩
  rcases turn i n σ3 H3 w3 with ⟨stop, qn⟩ | ⟨go, N, hN, step⟩
  · refine wpAny_passesOwn hp (thn (T.done X rfl rfl rfl hc i pins s3 σ3 H3 X.xe I3 (stat fr3) st3 stop) fun r s4 ⟨hr, I4⟩ => ?_)
    subst hr
    exact wpAny_execs_nil ⟨σ3, H3, I4, qn⟩
  · refine wpAny_passesOwn hp (thn (T.item X rfl rfl rfl hc i pins s3 σ3 H3 X.xe I3 (stat fr3) st3 go) fun r s4 ⟨u, hr, h4⟩ => ?_)
    subst hr
    refine wpAny_passesOwn hp (thn h4 fun _ s5 ⟨x, H5, I5, r5, y5, st5, fr5⟩ => ?_)
    have I5' := I5.pinned (stat fr5) (T.obj _ _ st5)
    refine wpAny_passesOwn hp (thn (hg _ s5 σ3 H5 x u _ I5' r5 (step x H5 y5)) fun _ s6 ⟨σ6, H6, I6, q6⟩ => ?_)
    refine wpAny_passesOwn hp (thn (hb _ s6 σ6 H6 _ I6 q6) fun f s7 q7 => ?_)
    have again : ∀ {σ7 : St} {H7 : Hp}, Inv X (pins ++ pinsAt fp s5.heap) σ7 H7 s7 → N σ7 H7 → ∃ m, m < n ∧ ∃ i σ' H', Inv X pins σ' H' s7 ∧ tn i s7.heap ∧ (∀ b ∈ fp, H' b = none) ∧ W i m σ' H' := fun {σ7 H7} I7 n7 => by
      obtain ⟨m', hm, w7⟩ := hN σ7 H7 n7
      refine ⟨m', hm, i + 1, σ7, H7, I7.unpinned, T.keep _ _ _ st5 fun b hb o e => (I7.pin (b, o) (List.mem_append_right _ (List.mem_append_right _ (mem_pinsAt hb e)))).1, fun b hb => ?_, w7⟩
      obtain ⟨o, e, d⟩ := T.obj _ _ st5 b hb
      exact (I7.pin (b, o) (List.mem_append_right _ (List.mem_append_right _ (mem_pinsAt hb e)))).2.1
    cases f with
    | next => obtain ⟨σ7, H7, I7, n7⟩ := q7; exact again I7 n7
    | cont => obtain ⟨σ7, H7, I7, n7⟩ := q7; exact again I7 n7
    | brk => obtain ⟨σ7, H7, I7, q7⟩ := q7; exact ⟨σ7, H7, I7.unpinned, q7⟩
    | ret v => obtain ⟨x7, σ7, H7, I7, r7, q7⟩ := q7; exact ⟨x7, σ7, H7, I7.unpinned, r7, q7⟩
end
theorem for_list {K : PySem.W.Frag} {a : Addr} {xs : List V} {g : TG} {tb : TS} {D : Ends} {σ : St} {H : Hp} (Pv : Nat → St → Hp → Prop) (h0 : Pv 0 σ H) (hl : ∀ i σ H, i ≤ xs.length → Pv i σ H → SqL K H a xs)
    (hs : ∀ i x σ H, xs[i]? = some x → Pv i σ H → g x σ H fun σ2 H2 => tb { D with nx := Pv (i + 1), ct := Pv (i + 1), bk := D.nx } σ2 H2) (hd : ∀ σ H, Pv xs.length σ H → D.nx σ H) :
    ∃ W : Nat → Nat → St → Hp → Prop, (∃ m, W 0 m σ H) ∧ ∀ i m σ H, W i m σ H →
      ((Itl K a).stop i H ∧ D.nx σ H) ∨ ((Itl K a).go i H ∧ ∃ N : St → Hp → Prop, (∀ σ' H', N σ' H' → ∃ m', m' < m ∧ W (i + 1) m' σ' H') ∧ ∀ x H', (Itl K a).yld i H x H' → g x σ H' fun σ2 H2 => tb { D with nx := N, ct := N, bk := D.nx } σ2 H2) := by
  refine ⟨fun i m σ H => m = xs.length - i ∧ i ≤ xs.length ∧ Pv i σ H, ⟨xs.length, by simp, Nat.zero_le _, h0⟩, ?_⟩
  rintro i m σ H ⟨rfl, hi, p⟩
  have q := hl i σ H hi p
  by_cases hlt : i < xs.length
  · refine .inr ⟨⟨xs, xs[i], q, by simp [hlt]⟩, Pv (i + 1), fun σ' H' p' => ⟨xs.length - (i + 1), by omega, rfl, hlt, p'⟩, fun x H' y => ?_⟩
    obtain ⟨e, y⟩ := y
    subst e
    exact hs i x σ _ (y xs q) p
  · have e : i = xs.length := by omega
    subst e
    exact .inl ⟨⟨xs, q, Nat.le_refl _⟩, hd σ H p⟩
theorem for_range {lo : Int} {n : Nat} {g : TG} {tb : TS} {D : Ends} {σ : St} {H : Hp} (Pv : Nat → St → Hp → Prop) (h0 : Pv 0 σ H)
    (hs : ∀ i σ H, i < n → Pv i σ H → g (.int (lo + i)) σ H fun σ2 H2 => tb { D with nx := Pv (i + 1), ct := Pv (i + 1), bk := D.nx } σ2 H2) (hd : ∀ σ H, Pv n σ H → D.nx σ H) :
    ∃ W : Nat → Nat → St → Hp → Prop, (∃ m, W 0 m σ H) ∧ ∀ i m σ H, W i m σ H →
      ((Itr lo n).stop i H ∧ D.nx σ H) ∨ ((Itr lo n).go i H ∧ ∃ N : St → Hp → Prop, (∀ σ' H', N σ' H' → ∃ m', m' < m ∧ W (i + 1) m' σ' H') ∧ ∀ x H', (Itr lo n).yld i H x H' → g x σ H' fun σ2 H2 => tb { D with nx := N, ct := N, bk := D.nx } σ2 H2) := by
  refine ⟨fun i m σ H => m = n - i ∧ i ≤ n ∧ Pv i σ H, ⟨n, by simp, Nat.zero_le _, h0⟩, ?_⟩
  rintro i m σ H ⟨rfl, hi, p⟩
  by_cases hlt : i < n
  · refine .inr ⟨hlt, Pv (i + 1), fun σ' H' p' => ⟨n - (i + 1), by omega, rfl, hlt, p'⟩, fun x H' y => ?_⟩
    obtain ⟨e, y⟩ := y
    subst e y
    exact hs i σ _ hlt p
  · have e : i = n := by omega
    subst e
    exact .inl ⟨Nat.le_refl _, hd σ H p⟩
end L2
namespace L2
open PySem PySem.Spec PyProof.Rows
abbrev R2 := V → V → Hp → VK → Prop
def OpR (X : Cx) (f : Value → Value → Sem Value) (r : R2) : Prop :=
  ∀ (pins : List (Addr × Obj)) (s : Shared) (σ : St) (H : Hp) (x y : V) (v u : Value) (Q : VK), Inv X pins σ H s → RelV x v → RelV y u → r x y H Q →
    wpAny (model X.prog X.w) X.A (f v u) (EP X pins σ Q) X.xe s
def UnR (X : Cx) (f : Value → Sem Value) (r : V → Hp → VK → Prop) : Prop :=
  ∀ (pins : List (Addr × Obj)) (s : Shared) (σ : St) (H : Hp) (x : V) (v : Value) (Q : VK), Inv X pins σ H s → RelV x v → r x H Q →
    wpAny (model X.prog X.w) X.A (f v) (EP X pins σ Q) X.xe s
def CallR (X : Cx) (f : Value) (r : List V → Hp → VK → Prop) : Prop :=
  ∀ (pins : List (Addr × Obj)) (s : Shared) (σ : St) (H : Hp) (xs : List V) (us : List Value) (Q : VK), Inv X pins σ H s → Vals xs us → r xs H Q →
    wpAny (model X.prog X.w) X.A (call f us) (EP X pins σ Q) X.xe s
def tOp (r : R2) (ta tb : TE) : TE := fun σ H Q => ta σ H fun x H1 => tb σ H1 fun y H2 => r x y H2 Q
def tUn (r : V → Hp → VK → Prop) (ta : TE) : TE := fun σ H Q => ta σ H fun x H1 => r x H1 Q
def rI (C : Int → Int → Prop) (g : Int → Int → V) : R2 := fun x y H Q => ∃ i j, x = .int i ∧ y = .int j ∧ C i j ∧ Q (g i j) H
def rI0 (g : Int → Int → V) : R2 := fun x y H Q => ∃ i j, x = .int i ∧ y = .int j ∧ Q (g i j) H
def rU (g : Int → V) : V → Hp → VK → Prop := fun x H Q => ∃ i, x = .int i ∧ Q (g i) H
section
variable {X : Cx} {a b c : Expr} {ta tb tc : TE} {pos : Pos}
theorem binT (ha : PE X a ta) (hb : PE X b tb) {pins : List (Addr × Obj)} {s : Shared} {σ : St} {H : Hp} {R : V → V → Hp → Prop} (I : Inv X pins σ H s)
    (h : ta σ H fun x H1 => tb σ H1 fun y H2 => R x y H2) {Q : Value → Shared → Prop} {f : Value → Value → Sem Value}
    (hf : ∀ v u s2 x y H2, Inv X pins σ H2 s2 → RelV x v → RelV y u → R x y H2 → wpAny (model X.prog X.w) X.A (f v u) Q X.xe s2) :
    wpAny (model X.prog X.w) X.A (eval a X.env) (fun v s₁ => wpAny (model X.prog X.w) X.A (eval b X.env) (fun u s₂ => wpAny (model X.prog X.w) X.A (f v u) Q X.xe s₂) X.xe s₁) X.xe s := by
  refine thn (ha pins s σ H _ I h) fun v s1 ⟨x, H1, I1, r1, q1⟩ => ?_
  refine thn (hb pins s1 σ H1 _ I1 q1) fun u s2 ⟨y, H2, I2, r2, q2⟩ => ?_
  exact hf v u s2 x y H2 I2 r1 r2 q2
theorem pe_op {op : Operator} {r : R2} (ho : OpR X (binaryOp op) r) (ha : PE X a ta) (hb : PE X b tb) : PE X (.BinOp a op b pos) (tOp r ta tb) := by
  intro pins s σ H Q I h
  exact wpAny_BinOp (binT ha hb I h fun v u s2 x y H2 I2 rx ry q => ho pins s2 σ H2 x y v u Q I2 rx ry q)
theorem pe_un {op : UnaryOp} {r : V → Hp → VK → Prop} (ho : UnR X (unaryOp op) r) (ha : PE X a ta) : PE X (.UnaryOp op a pos) (tUn r ta) := by
  intro pins s σ H Q I h
  exact UnaryOp_ (thn (ha pins s σ H _ I h) fun v s1 ⟨x, H1, I1, r1, q1⟩ => ho pins s1 σ H1 x v Q I1 r1 q1)
theorem opI {f : Value → Value → Sem Value} {C : Int → Int → Prop} {g : Int → Int → Int}
    (rule : ∀ (i j : Int) (t u : Tok) (s : Shared) (Q : Value → Shared → Prop) (E : Value → Shared → Prop), C i j → Q (.int (g i j) s.toks) { s with toks := s.toks + 1 } → wpAny (model X.prog X.w) X.A (f (.int i t) (.int j u)) Q E s) :
    OpR X f (rI C fun i j => .int (g i j)) := by
  intro pins s σ H x y v u Q I rx ry h
  obtain ⟨i, j, rfl, rfl, hc, q⟩ := h
  obtain ⟨t, rfl⟩ := rx
  obtain ⟨t', rfl⟩ := ry
  exact rule i j t t' s _ _ hc ⟨.int (g i j), H, I.tok _, ⟨_, rfl⟩, q⟩
theorem opI0 {f : Value → Value → Sem Value} {g : Int → Int → Int}
    (rule : ∀ (i j : Int) (t u : Tok) (s : Shared) (Q : Value → Shared → Prop) (E : Value → Shared → Prop), Q (.int (g i j) s.toks) { s with toks := s.toks + 1 } → wpAny (model X.prog X.w) X.A (f (.int i t) (.int j u)) Q E s) :
    OpR X f (rI0 fun i j => .int (g i j)) := by
  intro pins s σ H x y v u Q I rx ry h
  obtain ⟨i, j, rfl, rfl, q⟩ := h
  obtain ⟨t, rfl⟩ := rx
  obtain ⟨t', rfl⟩ := ry
  exact rule i j t t' s _ _ ⟨.int (g i j), H, I.tok _, ⟨_, rfl⟩, q⟩
theorem opB0 {f : Value → Value → Sem Value} {g : Int → Int → Bool}
    (rule : ∀ (i j : Int) (t u : Tok) (s : Shared) (Q : Value → Shared → Prop) (E : Value → Shared → Prop), Q (.bool (g i j)) s → wpAny (model X.prog X.w) X.A (f (.int i t) (.int j u)) Q E s) :
    OpR X f (rI0 fun i j => .bl (g i j)) := by
  intro pins s σ H x y v u Q I rx ry h
  obtain ⟨i, j, rfl, rfl, q⟩ := h
  obtain ⟨t, rfl⟩ := rx
  obtain ⟨t', rfl⟩ := ry
  exact rule i j t t' s _ _ ⟨.bl (g i j), H, I, rfl, q⟩
def CDiv (i j : Int) : Prop := 0 < j ∧ j < 1073741824
def CMul (i j : Int) : Prop := (-(2 ^ 64) < i ∧ i < 2 ^ 64) ∨ (-(2 ^ 64) < j ∧ j < 2 ^ 64)
theorem CMul.ok {i j : Int} (h : CMul i j) : IntMulOk i j := by
  rcases h with ⟨h1, h2⟩ | ⟨h1, h2⟩
  · exact .of_left (intBits_le_64 h1 h2)
  · exact .of_right (intBits_le_64 h1 h2)
theorem op_add : OpR X (binaryOp .Add) (rI0 fun i j => .int (i + j)) := opI0 fun _ _ _ _ _ _ _ q => add_int q
theorem op_sub : OpR X (binaryOp .Sub) (rI0 fun i j => .int (i - j)) := opI0 fun _ _ _ _ _ _ _ q => sub_int q
theorem op_mul : OpR X (binaryOp .Mult) (rI CMul fun i j => .int (i * j)) := opI fun _ _ _ _ _ _ _ hc q => mul_int q hc.ok
theorem op_fdiv : OpR X (binaryOp .FloorDiv) (rI CDiv fun i j => .int (i / j)) := opI fun i j _ _ _ _ _ hc q => by
  have h1 : (0 : Int) < j := hc.1
  have h2 : j < 1073741824 := hc.2
  exact floordiv_int (by omega) (by rw [Int.fdiv_eq_ediv_of_nonneg i (by omega)]; exact q) (.inl (PyProof.noPylong_small (by omega)))
theorem op_mod : OpR X (binaryOp .Mod) (rI (fun _ j => 0 < j) fun i j => .int (i % j)) := opI fun i j _ _ _ _ _ hc q => by
  have h1 : (0 : Int) < j := hc
  exact mod_int' (by omega) (by rw [Int.fmod_eq_emod_of_nonneg i (by omega)]; exact q)
theorem unI {f : Value → Sem Value} {g : Int → Int}
    (rule : ∀ (i : Int) (t : Tok) (s : Shared) (Q : Value → Shared → Prop) (E : Value → Shared → Prop), Q (.int (g i) s.toks) { s with toks := s.toks + 1 } → wpAny (model X.prog X.w) X.A (f (.int i t)) Q E s) :
    UnR X f (rU fun i => .int (g i)) := by
  intro pins s σ H x v Q I rx h
  obtain ⟨i, rfl, q⟩ := h
  obtain ⟨t, rfl⟩ := rx
  exact rule i t s _ _ ⟨.int (g i), H, I.tok _, ⟨_, rfl⟩, q⟩
theorem un_neg : UnR X (unaryOp .USub) (rU fun i => .int (-i)) := unI fun _ _ _ _ _ q => neg_int q
end
def scal : V → V → Bool
  | .non, .non => true | .non, .int _ => true | .int _, .non => true | .non, .bl _ => true | .bl _, .non => true | .non, .str _ => true | .str _, .non => true
  | .int _, .int _ => true | .bl _, .bl _ => true | .str _, .str _ => true | .byt _, .byt _ => true
  | .int _, .str _ => true | .str _, .int _ => true | .bl _, .str _ => true | .str _, .bl _ => true
  | _, _ => false
def rEq : R2 := fun x y H Q => scal x y = true ∧ Q (.bl (decide (x = y))) H
def rNe : R2 := fun x y H Q => scal x y = true ∧ Q (.bl (!decide (x = y))) H
theorem dec_int {i j : Int} : decide (V.int i = V.int j) = (i == j) := by
  rw [Bool.eq_iff_iff]
  simp
theorem dec_bl {i j : Bool} : decide (V.bl i = V.bl j) = (i == j) := by
  rw [Bool.eq_iff_iff]
  simp
theorem dec_str {i j : Str} : decide (V.str i = V.str j) = (i == j) := by
  rw [Bool.eq_iff_iff]
  simp
theorem dec_byt {i j : Array UInt8} : decide (V.byt i = V.byt j) = (i.toList == j.toList) := by
  rw [Bool.eq_iff_iff]
  cases i
  cases j
  simp
section
variable {X : Cx} {a b c : Expr} {ta tb tc : TE} {pos : Pos}
theorem fin_bl {pins : List (Addr × Obj)} {σ : St} {H : Hp} {s : Shared} {Q : VK} {k k' : Bool} (I : Inv X pins σ H s) (q : Q (.bl k) H) (e : k = k') : EP X pins σ Q (.bool k') s := by
  subst e
  exact ⟨.bl k, H, I, rfl, q⟩
theorem op_eq : OpR X (compareOp .Eq) rEq := by
  intro pins s σ H x y v u Q I rx ry h
  obtain ⟨hs, q⟩ := h
  cases x with
  | non =>
    cases rx
    cases y with
    | non => cases ry; exact PySem.EqNone.eq_none_none (fin_bl I q (by simp))
    | bl j => cases ry; exact PySem.EqNone.eq_none_bool (fin_bl I q (by simp))
    | int j => obtain ⟨t', rfl⟩ := ry; exact PySem.EqNone.eq_none_int (fin_bl I q (by simp))
    | str j => obtain ⟨t', rfl⟩ := ry; exact PySem.EqNone.eq_none_str (fin_bl I q (by simp))
    | _ => exact absurd (show false = true from hs) Bool.false_ne_true
  | bl i =>
    cases rx
    cases y with
    | non => cases ry; exact PySem.EqNone.eq_bool_none (fin_bl I q (by simp))
    | bl j => cases ry; exact eq_bool (fin_bl I q dec_bl)
    | str j => obtain ⟨t', rfl⟩ := ry; exact PySem.EqMixed.eq_bool_str (fin_bl I q (by simp))
    | _ => exact absurd (show false = true from hs) Bool.false_ne_true
  | int i =>
    obtain ⟨t, rfl⟩ := rx
    cases y with
    | non => cases ry; exact PySem.EqNone.eq_int_none (fin_bl I q (by simp))
    | int j => obtain ⟨t', rfl⟩ := ry; exact eq_int (fin_bl I q dec_int)
    | str j => obtain ⟨t', rfl⟩ := ry; exact PySem.EqMixed.eq_int_str (fin_bl I q (by simp))
    | _ => exact absurd (show false = true from hs) Bool.false_ne_true
  | str i =>
    obtain ⟨t, rfl⟩ := rx
    cases y with
    | non => cases ry; exact PySem.EqNone.eq_str_none (fin_bl I q (by simp))
    | bl j => cases ry; exact PySem.EqMixed.eq_str_bool (fin_bl I q (by simp))
    | int j => obtain ⟨t', rfl⟩ := ry; exact PySem.EqMixed.eq_str_int (fin_bl I q (by simp))
    | str j => obtain ⟨t', rfl⟩ := ry; exact eq_str (fin_bl I q dec_str)
    | _ => exact absurd (show false = true from hs) Bool.false_ne_true
  | byt i =>
    obtain ⟨t, rfl⟩ := rx
    cases y with
    | byt j => obtain ⟨t', rfl⟩ := ry; exact PySem.W.eq_bytes (fin_bl I q dec_byt)
    | _ => exact absurd (show false = true from hs) Bool.false_ne_true
  | _ => cases y <;> exact absurd (show false = true from hs) Bool.false_ne_true
theorem op_ne : OpR X (compareOp .NotEq) rNe := by
  intro pins s σ H x y v u Q I rx ry h
  obtain ⟨hs, q⟩ := h
  cases x with
  | non =>
    cases rx
    cases y with
    | non => cases ry; exact PySem.EqNone.ne_none_none (fin_bl I q (by simp))
    | bl j => cases ry; exact PySem.EqNone.ne_none_bool (fin_bl I q (by simp))
    | int j => obtain ⟨t', rfl⟩ := ry; exact PySem.EqNone.ne_none_int (fin_bl I q (by simp))
    | str j => obtain ⟨t', rfl⟩ := ry; exact PySem.EqNone.ne_none_str (fin_bl I q (by simp))
    | _ => exact absurd (show false = true from hs) Bool.false_ne_true
  | bl i =>
    cases rx
    cases y with
    | non => cases ry; exact PySem.EqNone.ne_bool_none (fin_bl I q (by simp))
    | bl j => cases ry; exact ne_bool (fin_bl I q (congrArg not dec_bl))
    | str j => obtain ⟨t', rfl⟩ := ry; exact PySem.EqMixed.ne_bool_str (fin_bl I q (by simp))
    | _ => exact absurd (show false = true from hs) Bool.false_ne_true
  | int i =>
    obtain ⟨t, rfl⟩ := rx
    cases y with
    | non => cases ry; exact PySem.EqNone.ne_int_none (fin_bl I q (by simp))
    | int j => obtain ⟨t', rfl⟩ := ry; exact ne_int (fin_bl I q (congrArg not dec_int))
    | str j => obtain ⟨t', rfl⟩ := ry; exact PySem.EqMixed.ne_int_str (fin_bl I q (by simp))
    | _ => exact absurd (show false = true from hs) Bool.false_ne_true
  | str i =>
    obtain ⟨t, rfl⟩ := rx
    cases y with
    | non => cases ry; exact PySem.EqNone.ne_str_none (fin_bl I q (by simp))
    | bl j => cases ry; exact PySem.EqMixed.ne_str_bool (fin_bl I q (by simp))
    | int j => obtain ⟨t', rfl⟩ := ry; exact PySem.EqMixed.ne_str_int (fin_bl I q (by simp))
    | str j => obtain ⟨t', rfl⟩ := ry; exact ne_str (fin_bl I q (congrArg not dec_str))
    | _ => exact absurd (show false = true from hs) Bool.false_ne_true
  | byt i =>
    obtain ⟨t, rfl⟩ := rx
    cases y with
    | byt j => obtain ⟨t', rfl⟩ := ry; exact PySem.W.ne_bytes (fin_bl I q (congrArg not dec_byt))
    | _ => exact absurd (show false = true from hs) Bool.false_ne_true
  | _ => cases y <;> exact absurd (show false = true from hs) Bool.false_ne_true
theorem op_lt : OpR X (compareOp .Lt) (rI0 fun i j => .bl (decide (i < j))) := opB0 fun _ _ _ _ _ _ _ q => lt_int q
theorem op_le : OpR X (compareOp .LtE) (rI0 fun i j => .bl (decide (i ≤ j))) := opB0 fun _ _ _ _ _ _ _ q => le_int q
theorem op_gt : OpR X (compareOp .Gt) (rI0 fun i j => .bl (decide (j < i))) := opB0 fun _ _ _ _ _ _ _ q => gt_int q
theorem op_isN : OpR X (compareOp .Is) (fun x y H Q => y = .non ∧ Q (.bl (decide (x = .non))) H) := by
  intro pins s σ H x y v u Q I rx ry h
  obtain ⟨rfl, q⟩ := h
  cases ry
  refine is_none_gen (fin_bl I q ?_)
  cases x <;> first
    | (cases rx; rfl)
    | (obtain ⟨t, rfl⟩ := rx; rfl)
theorem op_notN : OpR X (compareOp .IsNot) (fun x y H Q => y = .non ∧ Q (.bl (!decide (x = .non))) H) := by
  intro pins s σ H x y v u Q I rx ry h
  obtain ⟨rfl, q⟩ := h
  cases ry
  refine isnot_none_gen (fin_bl I q ?_)
  cases x <;> first
    | (cases rx; rfl)
    | (obtain ⟨t, rfl⟩ := rx; rfl)
theorem nomark (b : Expr) {op : CmpOp} (h : op ≠ .In := by decide) (h2 : op ≠ .NotIn := by decide) : behindInMarks op b = false := by
  have e1 : (op == CmpOp.In) = false := by cases op <;> first | rfl | exact absurd rfl h
  have e2 : (op == CmpOp.NotIn) = false := by cases op <;> first | rfl | exact absurd rfl h2
  cases b <;> simp [behindInMarks, e1, e2]
theorem pe_cmpR {op : CmpOp} {r : R2} (ho : OpR X (compareOp op) r) (ha : PE X a ta) (hb : PE X b tb) (hm : behindInMarks op b = false) : PE X (.Compare a [op] [b] pos) (tOp r ta tb) := by
  intro pins s σ H Q I h
  exact wpAny_Compare1 (binT ha hb I h fun v u s2 x y H2 I2 rx ry q => ho pins s2 σ H2 x y v u Q I2 rx ry q) hm
def tTest (t : TE) : TT := fun σ H Q => t σ H fun x H' => ∃ k, x = .bl k ∧ Q k H'
theorem pt_cmpR {op : CmpOp} {r : R2} (ho : OpR X (compareOp op) r) (ha : PE X a ta) (hb : PE X b tb) (hm : behindInMarks op b = false) : PT X (.Compare a [op] [b] pos) (tTest (tOp r ta tb)) := by
  intro pins s σ H Q I h
  refine wpAny_isTrue_Compare1 (thn (ha pins s σ H _ I h) fun v s1 ⟨x, H1, I1, r1, q1⟩ => thn (hb pins s1 σ H1 _ I1 q1) fun u s2 ⟨y, H2, I2, r2, q2⟩ =>
    thn (ho pins s2 σ H2 x y v u _ I2 r1 r2 q2) fun c s3 ⟨z, H3, I3, r3, k, e, q3⟩ => ?_) hm
  subst e
  cases r3
  exact wpAny_truthy_bool ⟨H3, I3, q3⟩
def tChain (r r' : R2) (ta tb tc : TE) : TE := fun σ H Q => ta σ H fun x H1 => tb σ H1 fun y H2 => r x y H2 fun z H3 => ∃ k, z = .bl k ∧
  (if k = true then tc σ H3 fun w' H4 => r' y w' H4 Q else Q (.bl false) H3)
theorem pt_chain {op op' : CmpOp} {r r' : R2} (ho : OpR X (compareOp op) r) (ho' : OpR X (compareOp op') r') (ha : PE X a ta) (hb : PE X b tb) (hc : PE X c tc)
    (hm : lastMarks [op, op'] [b, c] = false := by with_unfolding_all rfl) : PT X (.Compare a [op, op'] [b, c] pos) (tTest (tChain r r' ta tb tc)) := by
  intro pins s σ H Q I h
  refine isTrue_chain (thn (ha pins s σ H _ I h) fun v s1 ⟨x, H1, I1, r1, q1⟩ => test_link (thn (hb pins s1 σ H1 _ I1 q1) fun u s2 ⟨y, H2, I2, r2, q2⟩ =>
    thn (ho pins s2 σ H2 x y v u _ I2 r1 r2 q2) fun d s3 ⟨z, H3, I3, r3, k, e, q3⟩ => ?_)) hm
  subst e
  cases r3
  refine wpAny_truthy_bool ?_
  cases k with
  | false =>
    obtain ⟨k', e', q'⟩ := q3
    cases e'
    exact ite_ff ⟨H3, I3, q'⟩
  | true =>
    refine ite_tt (test_last (thn (hc pins s3 σ H3 _ I3 q3) fun w' s4 ⟨z', H4, I4, r4, q4⟩ => thn (ho' pins s4 σ H4 y z' u w' _ I4 r2 r4 q4) fun d' s5 ⟨z2, H5, I5, r5, k2, e2, q5⟩ => ?_))
    subst e2
    cases r5
    exact wpAny_truthy_bool ⟨H5, I5, q5⟩
theorem line63 : (sizeLine : Nat) < 2 ^ 63 := by rw [sizeLine_eq]; decide
theorem op_add_str : OpR X (binaryOp .Add) (fun x y H Q => ∃ i j, x = .str i ∧ y = .str j ∧ i.length + j.length ≤ sizeLine ∧ Q (.str (i ++ j)) H) := by
  intro pins s σ H x y v u Q I rx ry h
  obtain ⟨i, j, rfl, rfl, hz, q⟩ := h
  obtain ⟨t, rfl⟩ := rx
  obtain ⟨t', rfl⟩ := ry
  exact add_str (fun t' tk => ⟨.str (i ++ j), H, I.tok _, ⟨_, rfl⟩, q⟩) hz
theorem vals1 {x : V} {us : List Value} (r : Vals [x] us) : ∃ u, us = [u] ∧ RelV x u := by
  cases r with
  | cons r1 r2 => cases r2; exact ⟨_, rfl, r1⟩
theorem vals2 {x y : V} {us : List Value} (r : Vals [x, y] us) : ∃ u w', us = [u, w'] ∧ RelV x u ∧ RelV y w' := by
  cases r with
  | cons r1 r2 =>
    cases r2 with
    | cons r3 r4 => cases r4; exact ⟨_, _, rfl, r1, r3⟩
end
end L2
namespace L2
open PySem PySem.Spec PyProof.Rows
structure ObjM (h : Heap) (x dx C : Addr) (mA : Str → Option Value) : Prop where
  obj : h.get? x = some (PySem.W.instObj C dx)
  ns : h.Ns1 dx mA
  ne : dx ≠ x
theorem lookIn_ns {h : Heap} {dx : Addr} {mA : Str → Option Value} (n : h.Ns1 dx mA) : ∃ od, h.get? dx = some od ∧ ∀ name, PySem.W.lookIn name od = some (mA name) := by
  obtain ⟨o, es, ep, ho, hd, hk, _, hm⟩ := n
  refine ⟨o, ho, fun name => ?_⟩
  have e := hm name
  unfold nsFind findBy at e
  rw [← Array.find?_toList] at e
  unfold PySem.W.lookIn
  rw [hd]
  dsimp only
  split
  · rename_i y q
    rw [q] at e
    exact congrArg some e
  · rename_i q
    rw [q] at e
    have a : es.toList.any (·.refKey) = false := by
      rw [List.any_eq_false]
      intro y hy
      obtain ⟨z, t, hkey⟩ := hk y (Array.mem_toList_iff.mp hy)
      simp [DictEntry.refKey, hkey]
    have a' : ¬ es.toList.any (·.refKey) = true := by rw [a]; exact Bool.false_ne_true
    rw [if_neg a']
    exact congrArg some e
theorem ObjM.look {h : Heap} {x dx C : Addr} {mA : Str → Option Value} (I : ObjM h x dx C mA) : ∃ od, PySem.W.InstAt h x (PySem.W.instObj C dx) C (some od) ∧ ∀ name, PySem.W.lookIn name od = some (mA name) :=
  let ⟨od, ho, hl⟩ := lookIn_ns I.ns
  ⟨od, ⟨I.obj, rfl, rfl, ho⟩, hl⟩
section
variable {prog : Program} {w : World} {A : Around} {E : Value → Shared → Prop} {s : Shared} {K : PySem.W.Frag} {x dx C f : Addr} {mA : Str → Option Value} {name : Str} {v : Value}
theorem get_map {expr : Bool} {Q : Value → Shared → Prop} (X : K.In s.heap) (I : ObjM s.heap x dx C mA) (hg : PySem.W.plainGet K C name = true) (hh : PySem.W.hasDictIn K C = true)
    (ha : PySem.W.findIn K (.ref C) name = some none) (hv : mA name = some v) (hv' : PySem.W.handedIn v = true) (h : Q v { s with toks := s.toks + 1 }) :
    wpAny (model prog w) A (getAttr (.ref x) name expr) Q E s := by
  obtain ⟨od, J, hl⟩ := I.look
  exact PySem.W.get_value X J (PySem.W.plainGet_of hg).1 (PySem.W.findObj_own hh ha rfl (by rw [hl, hv])) hv' h
theorem get_meth {pl : Sem Bool} {Q : Value × List Value → Shared → Prop} (X : K.In s.heap) (I : ObjM s.heap x dx C mA) (hg : PySem.W.plainGet K C name = true)
    (hf : PySem.W.findIn K (.ref C) name = some (some (.ref f))) (ht : PySem.W.isFn K (.ref f) = true) (hv : mA name = none) (h : Q (.ref f, [.ref x]) s) :
    wpAny (model prog w) A (getMethod (.ref x) name pl) Q E s := by
  obtain ⟨od, J, hl⟩ := I.look
  exact PySem.W.method_fn X J (PySem.W.plainGet_of hg).1 (PySem.W.plainGet_of hg).2 hf (beq_iff_eq.mp ht) (by show (PySem.W.lookIn name od).map (·.isSome) = some false; rw [hl, hv]; rfl) h
theorem set_map {ns : List Str} {Q : Unit → Shared → Prop} (X : K.In s.heap) (I : ObjM s.heap x dx C mA)
    (hs : PySem.W.findIn K (.ref C) "__setattr__" = some (some (.builtin "object.__setattr__"))) (hp : PySem.W.plainOver K C = true) (ht : PySem.W.takerIn K C name = some none) (hh : PySem.W.hasDictIn K C = true)
    (hw : PySem.Within mA ns) (hsz : ns.length ≤ sizeLine)
    (h : ∀ h', ObjM h' x dx C (fun y => if y = name then some v else mA y) → Heap.SameBut dx s.heap h' → Q () { s with heap := h', toks := s.toks + 2 }) :
    wpAny (model prog w) A (setAttr (.ref x) name v) Q E s := by
  obtain ⟨od, J, hl⟩ := I.look
  refine PySem.W.set_plain X J hs (PySem.W.osa_open (s := { s with toks := s.toks + 1 }) (r := none) X J hp ht fun b => ?_)
  obtain ⟨cd, hc, hd'⟩ := PySem.W.any_some hh
  have hx : s.heap.get? x = some ⟨.ref C, some dx, .plain, #[]⟩ := I.obj
  refine wpAny_bind (wpAny_pure (wpAny_bind (wpAny_bind (wpAny_loadPart hx (wpAny_bind (PySem.W.Looks.here (s := { s with toks := s.toks + 1 }) (PySem.W.looks_clsIn X hc) ?_))))))
  rw [hd']
  refine wpAny_pure (a := some dx) (wpAny_bind (wpAny_pure (wpAny_bind ?_)))
  refine wpAny_nsSet1 (s := { s with toks := s.toks + 1 }) I.ns fun h' hn2 hs2 => ?_
  obtain ⟨oD, esD, epD, hoD, hdD, hcD⟩ := hn2.count (PySem.Within.cons name v hw)
  refine wpAny_bind (wpAny_lookBehind hoD (by rw [hdD]; exact pastItsLine_dict (Nat.le_trans hcD (by rw [List.length_cons]; omega))) ?_)
  exact wpAny_pure (h _ ⟨(hs2.2 _ (Ne.symm I.ne)).trans I.obj, hn2, I.ne⟩ hs2)
theorem make_map {R : Result → Shared → Prop} {vs : List Value} {kw : List (Str × Value)} (X : K.In s.heap) (hm : PySem.W.makesIn K C = true)
    (hi : PySem.W.findIn K (.ref C) "__init__" = some (some (.ref f))) (hf : PySem.W.typeIn K (.ref f) = some (.type "function"))
    (h : codeAny (model prog w) (A.under (.builtin "type.__call__" ⟨.ref C :: vs, kw⟩)) (.call (.ref f) ⟨.ref (s.heap.objs.size + 1) :: vs, kw⟩) (PySem.W.InitBack (s.heap.objs.size + 1) R)
      { s with heap := (s.heap.push PySem.W.emptyDict).push (PySem.W.instObj C s.heap.objs.size) }) :
    codeAny (model prog w) A (.call (.ref C) ⟨vs, kw⟩) R s := by
  obtain ⟨hh, g, d, t, os⟩ := s
  exact PySem.W.make_core (PySem.W.makes_of X hm) (PySem.W.looks_findIn X hi) (fun self => PySem.W.bind_fn X self hf) (.inl rfl) h
end
def putF (f : Str) (v : V) : List (Str × V) → List (Str × V)
  | [] => [(f, v)]
  | (g, x) :: r => if g = f then (g, v) :: r else (g, x) :: putF f v r
theorem lookup_putF (f g : Str) (v : V) : ∀ fs : List (Str × V), (putF f v fs).lookup g = if g = f then some v else fs.lookup g
  | [] => by
    show List.lookup g [(f, v)] = _
    by_cases h : g = f
    · have hb : (g == f) = true := beq_iff_eq.mpr h
      simp only [List.lookup, hb, if_pos h]
    · have hb : (g == f) = false := beq_eq_false_iff_ne.mpr h
      simp only [List.lookup, hb, if_neg h]
  | (k, x) :: r => by
    have ih := lookup_putF f g v r
    rw [show putF f v ((k, x) :: r) = (if k = f then (k, v) :: r else (k, x) :: putF f v r) from rfl]
    by_cases hk : k = f
    · rw [if_pos hk]
      by_cases h : g = k
      · have hb : (g == k) = true := beq_iff_eq.mpr h
        simp only [List.lookup, hb, if_pos (h.trans hk)]
      · have hb : (g == k) = false := beq_eq_false_iff_ne.mpr h
        simp only [List.lookup, hb, if_neg (fun e : g = f => h (e.trans hk.symm))]
    · rw [if_neg hk]
      by_cases h : g = k
      · have hb : (g == k) = true := beq_iff_eq.mpr h
        simp only [List.lookup, hb, if_neg (fun e : g = f => hk (h.symm.trans e))]
      · have hb : (g == k) = false := beq_eq_false_iff_ne.mpr h
        simp only [List.lookup, hb]
        exact ih
theorem keys_putF (f : Str) (v : V) : ∀ fs : List (Str × V), f ∈ (putF f v fs).map (·.1) ∧ ∀ g, g ∈ fs.map (·.1) → g ∈ (putF f v fs).map (·.1)
  | [] => ⟨by simp [putF], fun g h => by simp at h⟩
  | (k, x) :: r => by
    obtain ⟨i1, i2⟩ := keys_putF f v r
    rw [show putF f v ((k, x) :: r) = (if k = f then (k, v) :: r else (k, x) :: putF f v r) from rfl]
    by_cases hk : k = f
    · rw [if_pos hk]
      subst hk
      exact ⟨by simp, fun g h => by simpa using h⟩
    · rw [if_neg hk]
      refine ⟨?_, fun g h => ?_⟩
      · rw [List.map_cons]
        exact List.mem_cons_of_mem _ i1
      · rw [List.map_cons] at h ⊢
        rcases List.mem_cons.mp h with e | e
        · exact List.mem_cons.mpr (.inl e)
        · exact List.mem_cons_of_mem _ (i2 g e)
theorem length_putF (f : Str) (v : V) : ∀ fs : List (Str × V), (putF f v fs).length ≤ fs.length + 1
  | [] => by simp [putF]
  | (k, x) :: r => by
    have ih := length_putF f v r
    rw [show putF f v ((k, x) :: r) = (if k = f then (k, v) :: r else (k, x) :: putF f v r) from rfl]
    by_cases hk : k = f
    · rw [if_pos hk, List.length_cons, List.length_cons]; omega
    · rw [if_neg hk, List.length_cons, List.length_cons]; omega
theorem RelO.some_of {v : V} {o : Option Value} (r : RelO (some v) o) : ∃ u, o = some u ∧ RelV v u := by
  cases o with
  | none => exact (show False from r).elim
  | some u => exact ⟨u, rfl, r⟩
theorem RelO.none_of {o : Option Value} (r : RelO none o) : o = none := by
  cases o with
  | none => rfl
  | some u => exact (show False from r).elim
theorem handed_of {v : V} {u : Value} (r : RelV v u) : PySem.W.handedIn u = true := by
  cases v with
  | non => cases (show u = Value.none from r); rfl
  | bl b => cases (show u = Value.bool b from r); rfl
  | int i => obtain ⟨t, e⟩ := (show ∃ t, u = Value.int i t from r); cases e; rfl
  | str x => obtain ⟨t, e⟩ := (show ∃ t, u = Value.str x t from r); cases e; rfl
  | byt b => obtain ⟨t, e⟩ := (show ∃ t, u = Value.bytes b t from r); cases e; rfl
  | flt b => obtain ⟨t, e⟩ := (show ∃ t, u = Value.float b t from r); cases e; rfl
  | ref a => cases (show u = Value.ref a from r); rfl
  | ty n => cases (show u = Value.type n from r); rfl
section
variable {P : Program} {w : World} {H H' : Hp} {h h' : Heap} {a C dx : Addr} {fs fs' : List (Str × V)}
theorem ins_get (hok : HOk P w H h) (e : H a = some (.ins C dx fs)) : ∃ mA, ObjM h a dx C mA ∧ (∀ f, RelO (fs.lookup f) (mA f)) ∧ PySem.Within mA (fs.map (·.1)) ∧ fs.length ≤ 1000 ∧ H dx = some (.own a) := by
  obtain ⟨d, z, ne, ob, mA, n, r, q⟩ := (show ObjOk P w H h a (.ins C dx fs) from hok a _ e)
  exact ⟨mA, ⟨ob, n, ne⟩, r, q, z, d⟩
end
structure Cls (K : PySem.W.Frag) (C : Addr) : Prop where
  pg : PySem.W.plainGet K C Str.empty = true
  hd : PySem.W.hasDictIn K C = true
  po : PySem.W.plainOver K C = true
  sa : PySem.W.findIn K (.ref C) "__setattr__" = some (some (.builtin "object.__setattr__"))
theorem Cls.get {K : PySem.W.Frag} {C : Addr} (c : Cls K C) (f : Str) : PySem.W.plainGet K C f = true := c.pg
def NoAttr (K : PySem.W.Frag) (C : Addr) (f : Str) : Prop := PySem.W.findIn K (.ref C) f = some none
theorem NoAttr.taker {K : PySem.W.Frag} {C : Addr} {f : Str} (n : NoAttr K C f) : PySem.W.takerIn K C f = some none := by
  unfold PySem.W.takerIn
  rw [show PySem.W.findIn K (.ref C) f = some none from n]
  rfl
structure Meth (K : PySem.W.Frag) (C : Addr) (m : Str) (f : Addr) : Prop where
  at_ : PySem.W.findIn K (.ref C) m = some (some (.ref f))
  fn : PySem.W.isFn K (.ref f) = true
  kp : PySem.W.keepIn K (.ref f) = true
section
variable {X : Cx} {pins : List (Addr × Obj)} {σ : St} {H : Hp} {s : Shared} {a C dx : Addr} {fs : List (Str × V)} {f : Str} {v : V} {A : Around} {E : Value → Shared → Prop}
theorem getattr_ok {b : Bool} {Q : Value → Shared → Prop} (I : Inv X pins σ H s) (e : H a = some (.ins C dx fs)) (c : Cls X.K C) (n : NoAttr X.K C f) (l : fs.lookup f = some v)
    (h : ∀ u s', Inv X pins σ H s' → RelV v u → Q u s') : wpAny (model X.prog X.w) A (getAttr (.ref a) f b) Q E s := by
  obtain ⟨mA, O, r, _, _, _⟩ := ins_get I.hok e
  obtain ⟨u, hu, ru⟩ := RelO.some_of (v := v) (o := mA f) (by rw [← l]; exact r f)
  exact get_map I.kIn O (c.get f) c.hd n hu (handed_of ru) (h u _ (I.tok _) ru)
theorem getmeth_ok {m : Str} {g : Addr} {pl : Sem Bool} {Q : Value × List Value → Shared → Prop} (I : Inv X pins σ H s) (e : H a = some (.ins C dx fs)) (c : Cls X.K C) (k : Meth X.K C m g) (l : fs.lookup m = none)
    (h : Q (.ref g, [.ref a]) s) : wpAny (model X.prog X.w) A (getMethod (.ref a) m pl) Q E s := by
  obtain ⟨mA, O, r, _, _, _⟩ := ins_get I.hok e
  have hn : mA m = none := RelO.none_of (by rw [← l]; exact r m)
  exact get_meth I.kIn O (c.get m) k.at_ k.fn hn h
theorem setattr_ok {y : V} {u : Value} {Q : Unit → Shared → Prop} (I : Inv X pins σ H s) (e : H a = some (.ins C dx fs)) (c : Cls X.K C) (n : NoAttr X.K C f) (hl : fs.length < 1000) (ry : RelV y u)
    (h : ∀ s', Inv X pins σ (upd H a (.ins C dx (putF f y fs))) s' → Q () s') : wpAny (model X.prog X.w) A (setAttr (.ref a) f u) Q E s := by
  obtain ⟨mA, O, r, wi, _, ho⟩ := ins_get I.hok e
  have hz : (fs.map (·.1)).length ≤ sizeLine := by rw [List.length_map, sizeLine_eq]; omega
  refine set_map I.kIn O c.sa c.po n.taker c.hd wi hz fun h' O' sb => h _ ?_
  have hd : ∃ o, h'.get? dx = some o := let ⟨o, _, _, e', _⟩ := O'.ns; ⟨o, e'⟩
  refine I.write (x := a) (e := dx) (by rw [e]; exact True.intro) (.inr ho) (fun b q hb z => (sb.2 b hb).trans z) hd ?_
  refine ⟨by rw [upd_ne O.ne]; exact ho, ?_, O.ne, O'.obj, _, O'.ns, fun g => ?_, fun g hg => ?_⟩
  · have := length_putF f y fs; omega
  · show RelO ((putF f y fs).lookup g) (if g = f then some u else mA g)
    rw [lookup_putF]
    by_cases q : g = f
    · rw [if_pos q, if_pos q]; exact ry
    · rw [if_neg q, if_neg q]; exact r g
  · by_cases q : g = f
    · rw [q]; exact (keys_putF f y fs).1
    · refine (keys_putF f y fs).2 g (wi g fun z => hg ?_)
      show (if g = f then some u else mA g) = none
      rw [if_neg q]; exact z
theorem Inv.made (I : Inv X pins σ H s) : Inv X pins σ (upd (upd H s.heap.objs.size (.own (s.heap.objs.size + 1))) (s.heap.objs.size + 1) (.ins C s.heap.objs.size []))
    { s with heap := (s.heap.push PySem.W.emptyDict).push (PySem.W.instObj C s.heap.objs.size) } := by
  have e1 : (s.heap.push PySem.W.emptyDict).get? s.heap.objs.size = some PySem.W.emptyDict := Heap.get?_push_size s.heap rfl
  have e2 : ((s.heap.push PySem.W.emptyDict).push (PySem.W.instObj C s.heap.objs.size)).get? (s.heap.objs.size + 1) = some (PySem.W.instObj C s.heap.objs.size) := by
    have := Heap.get?_push_size (s.heap.push PySem.W.emptyDict) (o := PySem.W.instObj C s.heap.objs.size) rfl
    rwa [Heap.size_push] at this
  have e3 : (s.heap.push PySem.W.emptyDict).Ns s.heap.objs.size (fun _ => none) := ⟨PySem.W.emptyDict, #[], _, e1, rfl, (fun e he => absurd he (by simp)), fun _ => rfl⟩
  have I1 := I.laid (a := s.heap.objs.size) (o := .own (s.heap.objs.size + 1)) (h' := s.heap.push PySem.W.emptyDict) (t' := s.toks) (fun b u q => Heap.get?_push_of_some _ q) (Nat.le_refl _) ⟨_, e1⟩
  refine I1.laid (a := s.heap.objs.size + 1) (o := .ins C s.heap.objs.size []) (t' := s.toks) (fun b u q => Heap.get?_push_of_some _ q) (Nat.le_of_eq (Heap.size_push _ _)) ?_
  have ne : s.heap.objs.size ≠ s.heap.objs.size + 1 := Nat.ne_of_lt (Nat.lt_succ_self _)
  refine ⟨by rw [upd_ne ne, upd_same], Nat.zero_le _, ne, e2, fun _ => none, (Heap.Ns1.of_empty e3).at fun o q => Heap.get?_push_of_some _ q, fun _ => True.intro, fun y hy => absurd rfl hy⟩
theorem attr_of {prog : Program} {w : World} {env : Env} {e : Expr} {f : Str} {pos : Pos} {s : Shared} {Q : Value → Shared → Prop} (hb : attributeBase e f env (eval e env) = eval e env)
    (h : wpAny (model prog w) A (eval e env) (fun o s₁ => wpAny (model prog w) A (getAttr o f true) Q E s₁) E s) : wpAny (model prog w) A (eval (.Attribute e f pos) env) Q E s :=
  Attribute_any_ h (by rw [arm_eval_Attribute, hb])
end
def tFld (K : PySem.W.Frag) (ta : TE) (f : Str) : TE := fun σ H Q => ta σ H fun x H1 => ∃ a C dx fs v, x = .ref a ∧ H1 a = some (.ins C dx fs) ∧ Cls K C ∧ NoAttr K C f ∧ fs.lookup f = some v ∧ Q v H1
def sFld (K : PySem.W.Frag) (ta tv : TE) (f : Str) : TS := fun D σ H => tv σ H fun y H1 => ta σ H1 fun x H2 => ∃ a C dx fs, x = .ref a ∧ H2 a = some (.ins C dx fs) ∧ Cls K C ∧ NoAttr K C f ∧ fs.length < 1000 ∧
  D.nx σ (upd H2 a (.ins C dx (putF f y fs)))
section
variable {X : Cx} {o e value : Expr} {f : Str} {pos pos' tpos : Pos} {ta tv : TE}
theorem pe_fld (he : PE X e ta) (hb : attributeBase e f X.env (eval e X.env) = eval e X.env) : PE X (.Attribute e f pos) (tFld X.K ta f) := by
  intro pins s σ H Q I h
  refine attr_of hb (thn (he pins s σ H _ I h) fun u s1 ⟨x, H1, I1, rx, a, C, dx, fs, v, ex, ea, c, n, l, q⟩ => ?_)
  subst ex
  obtain rfl : u = Value.ref a := rx
  exact getattr_ok I1 ea c n l fun u' s2 I2 ru => ⟨v, H1, I2, ru, q⟩
theorem ps_fld (ha : PE X o ta) (hv : PE X value tv) (hs : swapsWith value (some (.Attribute o f pos')) pos.line X.env = pure false) : PS X (.Assign [.Attribute o f pos'] value pos) (sFld X.K ta tv f) := by
  intro pins s σ H D I h
  refine plainObj_wpAny_Assign_Attribute (thn (hv pins s σ H _ I h) fun u s1 ⟨y, H1, I1, ry, q⟩ => thn (ha pins s1 σ H1 _ I1 q) fun ov s2 ⟨x, H2, I2, rx, a, C, dx, fs, ex, ea, c, n, l, q2⟩ => ?_) hs
  subst ex
  obtain rfl : ov = Value.ref a := rx
  exact setattr_ok I2 ea c n l ry fun s3 I3 => ⟨σ, _, I3, q2⟩
end
section
variable {X : Cx} {pins : List (Addr × Obj)} {σ : St} {H : Hp} {s : Shared} {A : Around} {E : Value → Shared → Prop} {Q : Value → Shared → Prop} {c : Value} {b : Bool}
inductive TyOf (K : PySem.W.Frag) (H : Hp) : V → Value → Prop where
  | non : TyOf K H .non (.type "NoneType")
  | bl (x : Bool) : TyOf K H (.bl x) (.type "bool")
  | int (i : Int) : TyOf K H (.int i) (.type "int")
  | str (x : Str) : TyOf K H (.str x) (.type "str")
  | flt (x : UInt64) : TyOf K H (.flt x) (.type "float")
  | lst {a : Addr} {xs : List V} (e : H a = some (.lst xs)) : TyOf K H (.ref a) (.type "list")
  | frz {a : Addr} {o : Obj} {xs : List V} (e : H a = some (.frz o (.lst xs))) : TyOf K H (.ref a) (.type "list")
  | tup {a : Addr} {xs : List V} (e : H a = some (.tup xs)) : TyOf K H (.ref a) (.type "tuple")
  | dK {a : Addr} {kvs : List (Key × V)} (e : H a = some (.dK kvs)) : TyOf K H (.ref a) (.type "dict")
  | dT {a : Addr} {kvs : List (List Key × V)} (e : H a = some (.dT kvs)) : TyOf K H (.ref a) (.type "dict")
  | ins {a C dx : Addr} {fs : List (Str × V)} (e : H a = some (.ins C dx fs)) (cl : Cls K C) (ha : PySem.W.findIn K (.ref C) "__class__" = some (some (.builtin "object.__class__")))
      (hn : PySem.W.specialIn K (.builtin "object.__class__") "__get__" = some (some (.builtin "getset_descriptor.__get__"))) (htk : PySem.W.takesIn K (.builtin "object.__class__") = some true)
      (hm : PySem.W.mroIn K C (.type "object") = some true) : TyOf K H (.ref a) (.ref C)
end
end L2
namespace L2
open PySem PySem.Spec PyProof.Rows
structure Room (k : Nat) (A : Around) : Prop where
  hd : A.handled = none
  dp : A.depth + 3 * k + 5 < recursionLimit
  un : A.units + 16 * k + 200 < cLine
theorem Room.mono {j k : Nat} {A : Around} (r : Room k A) (h : j ≤ k) : Room j A := ⟨r.hd, by have := r.dp; omega, by have := r.un; omega⟩
theorem Room.deeper {k : Nat} {A : Around} (r : Room (k + 1) A) (env : Env) : Room k (A.deeper env) :=
  ⟨r.hd, by have := r.dp; show A.depth + 1 + 3 * k + 5 < _; omega, by have := r.un; show A.units + 3 + 16 * k + 200 < _; omega⟩
theorem make_depth {A : Around} {C : Addr} {us : List Value} {kw : List (Str × Value)} : (A.under (.builtin "type.__call__" ⟨.ref C :: us, kw⟩)).depth = A.depth + 1 := by
  first | rfl | simp [Around.under, Code.weight, Code.isCreation, Code.isGuard, Code.isCaller, Code.frames, Code.isFrame, guardIds]
theorem make_units {A : Around} {C : Addr} {us : List Value} {kw : List (Str × Value)} : (A.under (.builtin "type.__call__" ⟨.ref C :: us, kw⟩)).units = A.units + 1 := by
  first | rfl | simp [Around.under, Code.cUnits, Code.frames, Code.isFrame]
theorem Room.make {k : Nat} {A : Around} (r : Room (k + 1) A) (C : Addr) (us : List Value) (kw : List (Str × Value)) : Room k (A.under (.builtin "type.__call__" ⟨.ref C :: us, kw⟩)) :=
  ⟨r.hd, by have := r.dp; rw [make_depth]; omega, by have := r.un; rw [make_units]; omega⟩
theorem Room.depth {k : Nat} {A : Around} (r : Room k A) : A.depth < recursionLimit := by have := r.dp; omega
theorem Room.units {k : Nat} {A : Around} (r : Room k A) : A.units + 64 < cLine := by have := r.un; omega
def tNil : TA := fun _ H Q => Q [] H
def tCons (ta : TE) (tr : TA) : TA := fun σ H Q => ta σ H fun x H1 => tr σ H1 fun xs H2 => Q (x :: xs) H2
section
variable {X : Cx} {e : Expr} {es : List Expr} {te : TE} {t : TA} {pos : Pos}
theorem pa_nil : PA X [] tNil := fun _ _ _ _ H Q I h => Calls.spliced_nil ⟨[], H, I, .nil, h⟩
theorem pa_cons (ha : PE X e te) (hr : PA X es t) (hs : starEach (e :: es) X.env = (false, eval e X.env) :: starEach es X.env := by rfl) : PA X (e :: es) (tCons te t) := by
  intro pos pins s σ H Q I h
  rw [hs]
  show wpAny _ _ (spliced ((false, eval e X.env) :: backTo pos (starEach es X.env))) _ _ s
  refine Calls.spliced_cons (thn (ha pins s σ H _ I h) fun u s1 ⟨x, H1, I1, r1, q1⟩ => ?_)
  exact thn (hr pos pins s1 σ H1 _ I1 q1) fun us s2 ⟨xs, H2, I2, r2, q2⟩ => ⟨x :: xs, H2, I2, .cons r1 r2, q2⟩
def tTup (t : TA) : TE := fun σ H Q => t σ H fun xs H1 => xs.length ≤ sizeLine ∧ ∀ p, H1 p = none → Q (.ref p) (upd H1 p (.tup xs))
def tLst (t : TA) : TE := fun σ H Q => t σ H fun xs H1 => xs.length ≤ sizeLine ∧ ∀ p, H1 p = none → Q (.ref p) (upd H1 p (.lst xs))
theorem pe_tup {x1} (h : PA X es t) : PE X (.Tuple es x1 pos) (tTup t) := by
  intro pins s σ H Q I hq
  refine wpAny_Tuple_spliced (thn (h pos pins s σ H _ I hq) fun us s1 ⟨xs, H1, I1, r, z, q⟩ => ⟨by rw [← r.length]; exact z, ?_⟩)
  have hf : H1 s1.heap.objs.size = none := I1.hok.fresh (Nat.le_refl _)
  refine ⟨.ref s1.heap.objs.size, upd H1 s1.heap.objs.size (.tup xs), I1.laid (t' := s1.toks) (fun b u e => Heap.get?_push_of_some _ e) (Nat.le_refl _) ?_, rfl, q _ hf⟩
  exact ⟨z, us, r, ⟨_, Heap.get?_push_size _ rfl, rfl, _, rfl⟩⟩
theorem pe_lst (h : PA X es t) : PE X (.List es pos) (tLst t) := by
  intro pins s σ H Q I hq
  refine wpAny_List_spliced (thn (h pos pins s σ H _ I hq) fun us s1 ⟨xs, H1, I1, r, z, q⟩ => ⟨by rw [← r.length]; exact z, ?_⟩)
  have hf : H1 s1.heap.objs.size = none := I1.hok.fresh (Nat.le_refl _)
  refine ⟨.ref s1.heap.objs.size, upd H1 s1.heap.objs.size (.lst xs), I1.laid (t' := s1.toks) (fun b u e => Heap.get?_push_of_some _ e) (Nat.le_refl _) ?_, rfl, q _ hf⟩
  exact ⟨z, us, 0, r, Heap.get?_push_size _ rfl⟩
end
abbrev Sp := List V → Hp → VK → XK → Prop
abbrev CXT := List Env → Hp → Shared → XK → Value → Shared → Prop
structure Env0 (P : Program) (w : World) (K : PySem.W.Frag) (mg : Str → Option Value) (base : Heap) (A : Around) (outer : List Env) (s : Shared) (H : Hp) : Prop where
  frames : A.frames = some outer
  mod : Mod K mg base
  bs : ∀ b o, base.get? b = some o → s.heap.get? b = some o ∧ H b = none
  bsz : base.objs.size ≤ s.heap.objs.size
  funs : s.heap.FunFrames base outer
  frf : ∀ b ∈ frs outer, H b = none
  hok : HOk P w H s.heap
  bare : AllBare s.gens
def CE (outer : List Env) (P : Program) (w : World) (H : Hp) (s : Shared) (Q : VK) (u : Value) (s' : Shared) : Prop :=
  ∃ v H', s'.os = s.os ∧ AllBare s'.gens ∧ Un (frs outer) [] H H' s.heap s'.heap ∧ HOk P w H' s'.heap ∧ RelV v u ∧ Q v H'
def CR (CX : CXT) (outer : List Env) (P : Program) (w : World) (H : Hp) (s : Shared) (Q : VK) (E : XK) (r : Result) (s' : Shared) : Prop :=
  match r with
  | .ok (.ret u) => CE outer P w H s Q u s'
  | .ok _ => False
  | .error e => CX outer H s E e s'
structure FnOk (P : Program) (w : World) (K : PySem.W.Frag) (mg : Str → Option Value) (base : Heap) (CX : CXT) (k : Nat) (f : Addr) (fd : FuncData) (ps : List Str) (sp : Sp) : Prop where
  len : ∀ vs H Q E, sp vs H Q E → vs.length = ps.length
  run : ∀ (A : Around) (outer : List Env) (s : Shared) (H : Hp) (args : Args) (us : List Value) (vs : List V) (Q : VK) (E : XK), Room k A → Env0 P w K mg base A outer s H → BindsTo s fd args (ps.zip us) → Vals vs us → sp vs H Q E →
    codeAny (model P w) A (.call (.ref f) args) (CR CX outer P w H s Q E) s
theorem Env0.make {P : Program} {w : World} {K : PySem.W.Frag} {mg : Str → Option Value} {base : Heap} {A : Around} {outer : List Env} {s : Shared} {H : Hp} (e : Env0 P w K mg base A outer s H) (C : Addr) (us : List Value) (kw : List (Str × Value)) :
    Env0 P w K mg base (A.under (.builtin "type.__call__" ⟨.ref C :: us, kw⟩)) outer s H := ⟨by first | exact e.frames | (simpa [Around.under, Code.envs, Code.isFrame, pushEnvs] using e.frames), e.mod, e.bs, e.bsz, e.funs, e.frf, e.hok, e.bare⟩
section
variable {X : Cx} {pins : List (Addr × Obj)} {σ : St} {H : Hp} {s s' : Shared}
theorem Inv.env0 (I : Inv X pins σ H s) : Env0 X.prog X.w X.K X.mg X.base X.A X.stack s H :=
  ⟨I.ok.frames, I.ok.mod, I.bs, Nat.le_trans I.ok.bsz I.sz, I.stack, I.stkFree, I.hok, I.bare⟩
theorem Inv.after {Q : VK} {u : Value} (I : Inv X pins σ H s) (h : CE X.stack X.prog X.w H s Q u s') : EP X pins σ Q u s' := by
  obtain ⟨v, H', os, bare, un, hok, r, q⟩ := h
  obtain ⟨hh, g, d, t, os'⟩ := s'
  obtain rfl : os' = s.os := os
  exact ⟨v, H', I.call (h' := hh) (g' := g) (d' := d) (t' := t) (ch := []) un hok bare (fun b z => absurd z (by simp)), r, q⟩
end
def Binds (K : PySem.W.Frag) (fd : FuncData) (ps : List Str) (ds : List Value) : Prop :=
  ∀ (s : Shared) (us : List Value), K.In s.heap → (us ++ ds).length = ps.length → BindsTo s fd ⟨us, []⟩ (ps.zip (us ++ ds))
theorem Binds.all {K : PySem.W.Frag} {fd : FuncData} {ps : List Str} (h : ∀ us : List Value, us.length = ps.length → bindArgs fd ⟨us, []⟩ = pure (ps.zip us)) : Binds K fd ps [] := fun s us _ hl => by
  rw [List.append_nil] at hl ⊢
  exact .of_eq (h us hl)
section
variable {X : Cx} {CX : CXT} {k : Nat} {f C : Addr} {fd : FuncData} {ps : List Str} {sp : Sp} {dvs : List V} {ds : List Value} {E : XK} {x m : Str} {p pos apos : Pos} {e o : Expr} {es : List Expr} {ta : TE} {t : TA}
structure Mk (K : PySem.W.Frag) (C f : Addr) : Prop where
  makes : PySem.W.makesIn K C = true
  init : PySem.W.findIn K (.ref C) "__init__" = some (some (.ref f))
  fn : PySem.W.isFn K (.ref f) = true
  kp : PySem.W.keepIn K (.ref C) = true
end
section
variable {X : Cx} {CX : CXT} {k : Nat} {f C : Addr} {fd : FuncData} {ps ks : List Str} {sp : Sp} {E : XK} {x m : Str} {p pos apos kpos : Pos} {e o : Expr} {es : List Expr} {kws : List Keyword} {te ta : TE} {t tk : TA} {nm : Option Str}
variable {g : List Value → List Value → List Value} {gV : List V → List V → List V}
end
structure FnScope (N P : List Str) (sc : Scope) : Prop where
  kind : sc.kind = .function
  co : sc.isCoroutine = false
  gen : sc.isGenerator = false
  nd : N.Nodup
  pre : N.take P.length = P
  par : ∀ x ∈ P, sc.names.lookup x = some .local ∨ sc.names.lookup x = some .cell
  nofree : ∀ y ∈ sc.names, y.2 ≠ .free
theorem bindL_out {kindOf : Str → Option NameKind} {x : Str} : ∀ {binds : List (Str × Value)} {m : Str → Option Value}, (∀ v, (x, v) ∉ binds) → bindL kindOf binds m x = m x
  | [], _, _ => rfl
  | (n, v) :: r, m, h => by
    unfold bindL
    rw [bindL_out fun w hw => h w (List.mem_cons_of_mem _ hw)]
    split
    · have : x ≠ n := by rintro rfl; exact h v List.mem_cons_self
      simp [this]
    · rfl
theorem bindC_out {kindOf : Str → Option NameKind} {x : Str} : ∀ {binds : List (Str × Value)} {m : Str → Option Value}, (∀ v, (x, v) ∉ binds) → bindC kindOf binds m x = m x
  | [], _, _ => rfl
  | (n, v) :: r, m, h => by
    unfold bindC
    rw [bindC_out fun w hw => h w (List.mem_cons_of_mem _ hw)]
    split
    · rfl
    · have : x ≠ n := by rintro rfl; exact h v List.mem_cons_self
      simp [this]
theorem bindL_get {kindOf : Str → Option NameKind} {x : Str} {v : Value} : ∀ {P : List Str} {vs : List Value} {i : Nat} {m : Str → Option Value}, P.Nodup → P[i]? = some x → vs[i]? = some v → kindOf x = some .local →
    bindL kindOf (P.zip vs) m x = some v
  | [], _, _, _, _, h, _, _ => by simp at h
  | _ :: _, [], _, _, _, _, h, _ => by simp at h
  | p :: P, w :: vs, 0, m, nd, h1, h2, hk => by
    simp at h1 h2; subst h1; subst h2
    show bindL kindOf ((p, w) :: P.zip vs) m p = _
    unfold bindL
    rw [bindL_out fun v hv => (List.nodup_cons.mp nd).1 (List.of_mem_zip hv).1, if_pos hk]
    simp
  | p :: P, w :: vs, i + 1, m, nd, h1, h2, hk => by
    show bindL kindOf ((p, w) :: P.zip vs) m x = _
    unfold bindL
    exact bindL_get (i := i) (List.nodup_cons.mp nd).2 (by simpa using h1) (by simpa using h2) hk
theorem bindC_get {kindOf : Str → Option NameKind} {x : Str} {v : Value} : ∀ {P : List Str} {vs : List Value} {i : Nat} {m : Str → Option Value}, P.Nodup → P[i]? = some x → vs[i]? = some v → kindOf x ≠ some .local →
    bindC kindOf (P.zip vs) m x = some v
  | [], _, _, _, _, h, _, _ => by simp at h
  | _ :: _, [], _, _, _, _, h, _ => by simp at h
  | p :: P, w :: vs, 0, m, nd, h1, h2, hk => by
    simp at h1 h2; subst h1; subst h2
    show bindC kindOf ((p, w) :: P.zip vs) m p = _
    unfold bindC
    rw [bindC_out fun v hv => (List.nodup_cons.mp nd).1 (List.of_mem_zip hv).1, if_neg hk]
    simp
  | p :: P, w :: vs, i + 1, m, nd, h1, h2, hk => by
    show bindC kindOf ((p, w) :: P.zip vs) m x = _
    unfold bindC
    exact bindC_get (i := i) (List.nodup_cons.mp nd).2 (by simpa using h1) (by simpa using h2) hk
def start (N : List Str) (vs : List V) : St := vs.map some ++ List.replicate (N.length - vs.length) none
def cxOf (CX : CXT) (P : Program) (w : World) (K : PySem.W.Frag) (mg : Str → Option Value) (base : Heap) (N : List Str) (qual : Str) (scope : Scope) (f : Addr) (cd : Value) (A : Around) (outer : List Env) (s : Shared) (H : Hp) (E : XK) : Cx where
  prog := P
  w := w
  K := K
  mg := mg
  base := base
  A := A.deeper (envOfC qual scope s.heap.objs.size f cd)
  N := N
  s₀ := s
  H₀ := H
  env := envOfC qual scope s.heap.objs.size f cd
  outer := outer
  stack := envOfC qual scope s.heap.objs.size f cd :: outer
  ex := []
  calm := true
  fn := fun _ => true
  pn := []
  xe := fun e s' => wpAny (model P w) (A.deeper (envOfC qual scope s.heap.objs.size f cd)) (leaving (envOfC qual scope s.heap.objs.size f cd) e) (fun _ s'' => CX outer H s E e s'') (fun e' s'' => CX outer H s E e' s'') s'
theorem cell_has {sc : Scope} {n : Nat} {x : Str} (h : sc.names.lookup x = some .cell) : ∃ c, (cellsFrom n sc.names []).lookup x = some c := by
  have q := PySem.W.cellsFrom_some sc.names n [] (.inl h)
  exact Option.isSome_iff_exists.mp q
theorem inv_start {CX : CXT} {P : Program} {w : World} {K : PySem.W.Frag} {mg : Str → Option Value} {base : Heap} {N ps : List Str} {qual : Str} {scope : Scope} {f : Addr} {cd : Value} {A : Around} {outer : List Env} {s s1 : Shared} {H : Hp} {E : XK} {us : List Value} {vs : List V}
    (S : FnScope N ps scope) (hd : A.handled = none) (e0 : Env0 P w K mg base A outer s H) (hl : vs.length = ps.length) (r : Vals vs us)
    (x : InCallC s s.heap.objs.size (bindL (envOfC qual scope s.heap.objs.size f cd).kindOf (ps.zip us) fun _ => none) (cellsFrom (s.heap.objs.size + 1) scope.names []) (bindC (envOfC qual scope s.heap.objs.size f cd).kindOf (ps.zip us) fun _ => none) s1) :
    Inv (cxOf CX P w K mg base N qual scope f cd A outer s H E) [] (start N vs) H s1 := by
  have hpl : ps.length ≤ N.length := by have := congrArg List.length S.pre; rw [List.length_take] at this; omega
  obtain ⟨h1, tk, rfl, hk⟩ := x.done
  have noA : ∀ b : Addr, b ∉ (cxOf CX P w K mg base N qual scope f cd A outer s H E).ex := fun b z => absurd (show b ∈ ([] : List Addr) from z) (by simp)
  refine ⟨⟨e0.mod, S.kind, rfl, rfl, Nat.le_refl _, fun y z c h1 h2 => ?_, fun y hy => ?_, fun y c _ h => ?_, fun _ => hd, Around.frames_deeper e0.frames, .inr ⟨rfl, rfl⟩, fun b z => absurd z (noA b), e0.bs, e0.bsz, fun b _ _ => noA b, fun b z => absurd z (noA b), e0.funs, e0.frf⟩,
    rfl, e0.bare, Un.kept hk, ⟨_, x.toInCall.ns, fun i y v h1 h2 h3 => ?_⟩, fun y c h => ⟨_, x.cell y c h⟩, e0.hok.fresh (Nat.le_refl _), fun y c h => ?_, fun p hp => absurd (show p ∈ ([] : List (Addr × Obj)) from hp) (by simp), e0.hok.kept hk, ?_⟩
  · exact name_of_addr x.apart (PySem.mem_of_lookup h1) (PySem.mem_of_lookup h2)
  · have hy : scope.names.lookup y = some .cell ∨ scope.names.lookup y = some .free := hy
    rcases hy with hy | hy
    · exact cell_has hy
    · exact absurd rfl (S.nofree _ (PySem.mem_of_lookup hy))
  · exact Nat.le_of_lt (x.above y c (PySem.mem_of_lookup h))
  · have hi : i < vs.length := by
      unfold start at h2
      by_cases hi : i < vs.length
      · exact hi
      · rw [List.getElem?_append_right (by simpa using hi)] at h2
        rw [List.getElem?_replicate] at h2
        split at h2 <;> cases h2
    have ha : vs[i]? = some v := by
      unfold start at h2
      rw [List.getElem?_append_left (by simpa using hi), List.getElem?_map] at h2
      cases e : vs[i]? with
      | none => rw [e] at h2; cases h2
      | some a => rw [e] at h2; cases h2; rfl
    obtain ⟨u, hu, rv⟩ := r.get ha
    have hp : ps[i]? = some y := by
      rw [← S.pre, List.getElem?_take_of_lt (by omega)]; exact h1
    have ndP : ps.Nodup := by rw [← S.pre]; exact S.nd.sublist (List.take_sublist _ _)
    refine ⟨u, rv, ?_⟩
    rcases S.par y (List.mem_of_getElem? hp) with k | k
    · exact .inl ⟨k, bindL_get ndP hp hu k⟩
    · obtain ⟨c, e⟩ := cell_has (n := s.heap.objs.size + 1) k
      refine .inr ⟨.inl k, c, e, ?_⟩
      have q := x.cell y c e
      rw [bindC_get ndP hp hu (by show scope.names.lookup y ≠ _; rw [k]; decide)] at q
      exact q
  · exact e0.hok.fresh (Nat.le_of_lt (x.above y c (PySem.mem_of_lookup h)))
  · unfold start
    show _ = N.length
    rw [List.length_append, List.length_map, List.length_replicate]
    omega
theorem fn_of {CX : CXT} {P : Program} {w : World} {K : PySem.W.Frag} {mg : Str → Option Value} {base : Heap} {k : Nat} {f : Addr} {name qual : Str} {params : Arguments} {body : List Stmt} {scope : Scope} {dV kV doc pm cdv ct oc : Value} {an od : Option Addr}
    {osl : Array (Option Value)} {N ps : List Str} {sp : Sp} (lk : K.lookup f = some ⟨oc, od, .func (PySem.W.fnOf name qual params body scope dV kV doc pm an cdv ct), osl⟩) (hcd : PySem.W.codeIn K cdv qual = true) (S : FnScope N ps scope)
    (len : ∀ vs H Q E, sp vs H Q E → vs.length = ps.length)
    (hbody : ∀ (A : Around) (outer : List Env) (s : Shared) (H : Hp) (vs : List V) (Q : VK) (E : XK), Room k (A.deeper (envOfC qual scope s.heap.objs.size f cdv)) → sp vs H Q E →
      ∃ t, PSs (cxOf CX P w K mg base N qual scope f cdv A outer s H E) body t ∧ t { nx := fun _ H' => Q .non H', rt := Q } (start N vs) H) :
    FnOk P w K mg base CX (k + 1) f (PySem.W.fnOf name qual params body scope dV kV doc pm an cdv ct) ps sp := by
  refine ⟨len, fun A outer s H args us vs Q E hr e0 hb r hsp => ?_⟩
  have hl := len _ _ _ _ hsp
  have KX : K.In s.heap := e0.mod.kin.keeps fun b o e => (e0.bs b o e).1
  have lim : s.heap.NoLimit := e0.mod.nolimit.keeps fun b o e => (e0.bs b o e).1
  have hkind : ∀ y ∈ ps.zip us, scope.names.lookup y.1 = some .local ∨ (scope.names.lookup y.1 = some .cell ∧ ((cellsFrom (s.heap.objs.size + 1) scope.names []).lookup y.1).isSome = true) := fun ⟨n, v⟩ hy => by
    rcases S.par n (List.of_mem_zip hy).1 with q | q
    · exact .inl q
    · exact .inr ⟨q, PySem.W.cellsFrom_some _ _ _ (.inl q)⟩
  refine codeAny_call_function hr.depth (KX _ _ lk) rfl S.co S.gen rfl (PySem.W.codeRec_of KX hcd) (hb _ _ _ _ ?_)
  refine wpAny_newFunctionEnv_cells S.kind hkind fun env he s1 x => ?_
  subst he
  refine ⟨lim.keeps x.toInCall.keep, codeAny_func ?_⟩
  obtain ⟨t, ht, hq⟩ := hbody A outer s H vs Q E (hr.deeper _) hsp
  have I : Inv (cxOf CX P w K mg base N qual scope f cdv A outer s H E) [] (start N vs) H s1 := inv_start S hr.hd e0 hl r x
  refine wpAny_mono (ht [] s1 (start N vs) H _ I hq) (fun fl s' hs => ?_) fun e s' hs => hs
  have fin : ∀ {σ' : St} {H' : Hp} {v : V} {u : Value}, Inv (cxOf CX P w K mg base N qual scope f cdv A outer s H E) [] σ' H' s' → RelV v u → Q v H' → CE outer P w H s Q u s' :=
    fun {σ' H' v u} J rv q => ⟨v, H', J.os, J.bare, J.base, J.hok, rv, q⟩
  cases fl with
  | ret u =>
    obtain ⟨v, σ', H', J, rv, q⟩ := hs
    exact fin J rv q
  | next =>
    obtain ⟨σ', H', J, q⟩ := hs
    exact fin (v := V.non) (u := Value.none) J rfl q
  | brk =>
    obtain ⟨_, _, _, q⟩ := hs
    exact False.elim q
  | cont =>
    obtain ⟨_, _, _, q⟩ := hs
    exact False.elim q
end L2
namespace L2
open PySem PySem.Spec PyProof.Rows
section
variable {X : Cx} {x : Str} {p pos : Pos} {e : Expr} {es : List Expr} {t : TA} {id T : String} {r : List V → Hp → VK → Prop}
def tCB (r : List V → Hp → VK → Prop) (t : TA) : TE := fun σ H Q => t σ H fun vs H1 => r vs H1 Q
theorem pe_callB (hc : CallR X (.builtin id) r) (hg : Gl X x) (hm : X.mg x = none) (hv : bootBuiltins x = some (.builtin id)) (ha : PA X (e :: es) t) (hn : x ≠ "__name__" := by decide) (hdb : (x == ("__debug__" : Str)) = false := by decide)
    (he : starEach (e :: es) X.env = (false, eval e X.env) :: starEach es X.env := by rfl) (hpl : (backTo pos (starEach es X.env)).any (·.1) = false := by rfl) : PE X (.Call (.Name x p) (e :: es) [] pos) (tCB r t) := by
  intro pins s σ H Q I h
  refine wpAny_Call_Name_kw (ld_blt I hg hm hv ?_ hn hdb)
  exact PyProof.Rows.callWith_builtin1 (thn (ha pos pins s σ H _ I h) fun us s1 ⟨vs, H1, I1, r1, q1⟩ => hc pins s1 σ H1 vs us Q I1 r1 q1) he hpl
theorem pe_callTy (hc : CallR X (.type T) r) (hg : Gl X x) (hm : X.mg x = none) (hv : bootBuiltins x = some (.type T)) (ha : PA X (e :: es) t) (hn : x ≠ "__name__" := by decide) (hdb : (x == ("__debug__" : Str)) = false := by decide)
    (he : starEach (e :: es) X.env = (false, eval e X.env) :: starEach es X.env := by rfl) (hpl : (backTo pos (starEach es X.env)).any (·.1) = false := by rfl) : PE X (.Call (.Name x p) (e :: es) [] pos) (tCB r t) := by
  intro pins s σ H Q I h
  refine wpAny_Call_Name_kw (ld_blt I hg hm hv ?_ hn hdb)
  exact PyProof.Rows.callWith_type1 (thn (ha pos pins s σ H _ I h) fun us s1 ⟨vs, H1, I1, r1, q1⟩ => hc pins s1 σ H1 vs us Q I1 r1 q1) he hpl
end
end L2
namespace HT
open PySem PyProof.Rows
section
open PySem.SeqAt
open PySem.AutoSeq1 (wpAny_loadPart')
open PySem.MeetsSeq PySem.MeetsSeq2 PySem.MeetsSeq3
end
section
variable {prog : Program} {w : World} {A : Around} {E : Value → Shared → Prop} {s : Shared}
def sIx (n d : Nat) : Option Int → Nat
  | none => d
  | some v => if v < 0 then (v + (n : Int)).toNat else min v.toNat n
end
end HT
namespace L2
open PySem PySem.Spec PyProof.Rows
abbrev TO := St → Hp → (Option Int → Hp → Prop) → Prop
def PO (X : Cx) (e : Option Expr) (t : TO) : Prop :=
  ∀ (pins : List (Addr × Obj)) (s : Shared) (σ : St) (H : Hp) (Q : Option Int → Hp → Prop), Inv X pins σ H s → t σ H Q →
    wpAny (model X.prog X.w) X.A (evalPart e X.env) (fun u s' => ∃ o H', Inv X pins σ H' s' ∧ IsPart u o ∧ Q o H') X.xe s
def tNoPart : TO := fun _ H Q => Q none H
def tPart (t : TE) : TO := fun σ H Q => t σ H fun x H1 => ∃ i, x = .int i ∧ Q (some i) H1
section
variable {X : Cx} {e : Expr} {te : TE} {lo hi : Option Expr} {tl th : TO} {pos p2 : Pos}
theorem po_none : PO X none tNoPart := by
  intro pins s σ H Q I h
  rw [evalPart_none]
  exact wpAny_pure ⟨none, H, I, .none, h⟩
theorem po_some (h : PE X e te) : PO X (some e) (tPart te) := by
  intro pins s σ H Q I hw
  rw [evalPart_some]
  refine thn (h pins s σ H _ I hw) fun u s1 ⟨x, H1, I1, r1, q1⟩ => ?_
  obtain ⟨i, rfl, q⟩ := q1
  obtain ⟨t, rfl⟩ := r1
  exact ⟨some i, H1, I1, .int i t, q⟩
def SlR (X : Cx) (r : V → Option Int → Option Int → Hp → VK → Prop) : Prop :=
  ∀ (pins : List (Addr × Obj)) (s : Shared) (σ : St) (H : Hp) (x : V) (v vl vu : Value) (lo hi : Option Int) (sl : Addr) (Q : VK), Inv X pins σ H s → RelV x v → s.heap.IsSliceOf sl vl vu .none → IsPart vl lo → IsPart vu hi → r x lo hi H Q →
    ∃ T id, typeLookup (.type T) "__getitem__" = pure (some (.builtin id)) ∧ s.TypeIs v T ∧ wpAny (model X.prog X.w) X.A (getItem v (.ref sl)) (EP X pins σ Q) X.xe s
def tSl (r : V → Option Int → Option Int → Hp → VK → Prop) (te : TE) (tl th : TO) : TE := fun σ H Q => te σ H fun x H1 => tl σ H1 fun l H2 => th σ H2 fun u H3 => r x l u H3 Q
theorem pe_slice {r : V → Option Int → Option Int → Hp → VK → Prop} (hr : SlR X r) (he : PE X e te) (hl : PO X lo tl) (hu : PO X hi th) : PE X (.Subscript e (.Slice lo hi none p2) pos) (tSl r te tl th) := by
  intro pins s σ H Q I h
  refine Subscript_ (thn (he pins s σ H _ I h) fun v s1 ⟨x, H1, I1, r1, q1⟩ => ?_)
  refine wpAny_Slice (thn (hl pins s1 σ H1 _ I1 q1) fun vl s2 ⟨l, H2, I2, pl, q2⟩ => thn (hu pins s2 σ H2 _ I2 q2) fun vu s3 ⟨u, H3, I3, pu, q3⟩ => ?_)
  rw [evalPart_none]
  refine wpAny_pure ?_
  have I4 : Inv X pins σ H3 { s3 with heap := s3.heap.push { cls := .type "slice", data := .fields #[vl, vu, .none] } } := I3.kept (t' := s3.toks) fun b ob q => Heap.get?_push_of_some _ q
  obtain ⟨T, id, hT, ht, hg⟩ := hr pins { s3 with heap := s3.heap.push { cls := .type "slice", data := .fields #[vl, vu, .none] } } σ H3 x v vl vu l u s3.heap.objs.size Q I4 r1 (Heap.IsSliceOf.new ..) pl pu q3
  show wpAny (model X.prog X.w) X.A (subscriptTail e (.Slice lo hi none p2) v (.ref s3.heap.objs.size)) (EP X pins σ Q) X.xe { s3 with heap := s3.heap.push { cls := .type "slice", data := .fields #[vl, vu, .none] } }
  exact tail_any (ops := [.ref s3.heap.objs.size, v]) ht hT hg (by with_unfolding_all rfl)
def cutV (xs : List V) (lo hi : Option Int) : List V := (xs.drop (HT.sIx xs.length 0 lo)).take (HT.sIx xs.length xs.length hi - HT.sIx xs.length 0 lo)
theorem cutV_length (xs : List V) (lo hi : Option Int) : (cutV xs lo hi).length ≤ xs.length := by
  unfold cutV
  rw [List.length_take, List.length_drop]
  omega
end
end L2
namespace L2
open PySem PySem.Spec PyProof.Rows
def ixN (n : Nat) (i : Int) : Option Nat := if 0 ≤ i then (if i < n then some i.toNat else none) else if -(n : Int) ≤ i then some (i + n).toNat else none
def atI {α : Type} (xs : List α) (i : Int) : Option α := (ixN xs.length i).bind fun j => xs[j]?
theorem ixN_seq {n : Nat} {i : Int} {j : Nat} (h : ixN n i = some j) : seqIndex? i n = some j ∧ j < n ∧ -(n : Int) ≤ i ∧ i < n := by
  unfold ixN at h
  by_cases h0 : 0 ≤ i
  · rw [if_pos h0] at h
    by_cases h1 : i < n
    · rw [if_pos h1] at h
      have e : i.toNat = j := Option.some.inj h
      exact ⟨by rw [seqIndex_of h0 h1, e], by omega, by omega, h1⟩
    · rw [if_neg h1] at h; cases h
  · rw [if_neg h0] at h
    by_cases h1 : -(n : Int) ≤ i
    · rw [if_pos h1] at h
      have e : (i + n).toNat = j := Option.some.inj h
      exact ⟨by rw [seqIndex_neg (by omega) h1, e], by omega, h1, by omega⟩
    · rw [if_neg h1] at h; cases h
theorem atI_get {α : Type} {xs : List α} {i : Int} {v : α} (h : atI xs i = some v) : ∃ j, seqIndex? i xs.length = some j ∧ xs[j]? = some v ∧ j < xs.length ∧ -(xs.length : Int) ≤ i ∧ i < xs.length := by
  unfold atI at h
  cases e : ixN xs.length i with
  | none => rw [e] at h; cases h
  | some j =>
    rw [e] at h
    obtain ⟨h1, h2, h3, h4⟩ := ixN_seq e
    exact ⟨j, h1, h, h2, h3, h4⟩
theorem atI_nat {α : Type} {xs : List α} {j : Nat} {v : α} (h : xs[j]? = some v) : atI xs (j : Int) = some v := by
  have hj : j < xs.length := (List.getElem?_eq_some_iff.mp h).1
  have e : ixN xs.length (j : Int) = some j := by
    unfold ixN
    rw [if_pos (by omega), if_pos (by omega)]; simp
  unfold atI; rw [e]; exact h
def PlainIx (b : Expr) : Prop := ∀ o i, subscripted b false o i = operate [o, i] (getItem o i)
def IxR (X : Cx) (r : R2) : Prop :=
  ∀ (value slice : Expr) (pins : List (Addr × Obj)) (s : Shared) (σ : St) (H : Hp) (x y : V) (v u : Value) (Q : VK), Inv X pins σ H s → RelV x v → RelV y u → r x y H Q →
    subscripted slice false v u = operate [v, u] (getItem v u) → wpAny (model X.prog X.w) X.A (subscriptTail value slice v u) (EP X pins σ Q) X.xe s
def MtR (X : Cx) (id : String) (r : V → List V → Hp → VK → Prop) : Prop :=
  ∀ (pins : List (Addr × Obj)) (s : Shared) (σ : St) (H : Hp) (x : V) (xs : List V) (v : Value) (us : List Value) (Q : VK), Inv X pins σ H s → RelV x v → Vals xs us → r x xs H Q →
    wpAny (model X.prog X.w) X.A (call (.builtin id) (v :: us)) (EP X pins σ Q) X.xe s
section
variable {X : Cx} {a b : Expr} {ta tb : TE} {pos : Pos}
theorem pe_ix {r : R2} (hr : IxR X r) (ha : PE X a ta) (hb : PE X b tb) (hs : PlainIx b) : PE X (.Subscript a b pos) (tOp r ta tb) := by
  intro pins s σ H Q I h
  exact Subscript_ (binT ha hb I h fun v u s2 x y H2 I2 rx ry q => hr a b pins s2 σ H2 x y v u Q I2 rx ry q (hs _ _))
def rIxL (K : PySem.W.Frag) : R2 := fun x y H Q => ∃ p xs i v, x = .ref p ∧ y = .int i ∧ SqL K H p xs ∧ atI xs i = some v ∧ Q v H
def rIxT (K : PySem.W.Frag) : R2 := fun x y H Q => ∃ p xs i v, x = .ref p ∧ y = .int i ∧ SqT K H p xs ∧ atI xs i = some v ∧ Q v H
def rIxS : R2 := fun x y H Q => ∃ z i c, x = .str z ∧ y = .int i ∧ z.length ≤ sizeLine ∧ atI z.cps.toList i = some c ∧ Q (.str ⟨#[c]⟩) H
theorem ix_list : IxR X (rIxL X.K) := by
  intro value slice pins s σ H x y v u Q I rx ry h hs
  obtain ⟨p, xs, i, z, rfl, rfl, hq, he, q⟩ := h
  cases rx
  obtain ⟨t, rfl⟩ := ry
  obtain ⟨its, r, pl, hz⟩ := I.list hq
  obtain ⟨j, h1, h2, h3, h4, h5⟩ := atI_get he
  obtain ⟨w, ew, rw'⟩ := r.get h2
  have hl := r.length
  have hn := line63
  have fin : EP X pins σ Q w s := ⟨z, H, I, rw', q⟩
  by_cases h0 : 0 ≤ i
  · have hj : i.toNat = j := by
      rw [seqIndex_of h0 h5] at h1
      exact Option.some.inj h1
    exact item_listR pl.isList h0 (by omega) (by rw [hj]; simpa using ew) fin hs
  · have hj : (i + (its.toArray.size : Int)).toNat = j := by
      rw [seqIndex_neg (by omega) h4] at h1
      rw [List.size_toArray, ← hl]
      exact Option.some.inj h1
    exact subscriptTail_builtinR (x := w) pl.isList.typeIs slot_list_getitem.lookup
      (wpAny_getItem_list_neg (Q := fun r s' => r = w ∧ EP X pins σ Q r s') pl.isList (by omega) (by rw [List.size_toArray] <;> omega) (by omega) (by rw [hj]; simpa using ew) ⟨rfl, fin⟩) hs
theorem ix_tup : IxR X (rIxT X.K) := by
  intro value slice pins s σ H x y v u Q I rx ry h hs
  obtain ⟨p, xs, i, z, rfl, rfl, hq, he, q⟩ := h
  cases rx
  obtain ⟨t, rfl⟩ := ry
  obtain ⟨its, r, pl, hz⟩ := I.tuple hq
  obtain ⟨j, h1, h2, h3, h4, h5⟩ := atI_get he
  obtain ⟨w, ew, rw'⟩ := r.get h2
  have hl := r.length
  have hn := line63
  have fin : EP X pins σ Q w s := ⟨z, H, I, rw', q⟩
  exact subscriptTail_builtinR (x := w) pl.typeIs slot_tuple_getitem.lookup
    (getItem_tuple (j := j) (Q := fun r s' => r = w ∧ EP X pins σ Q r s') pl (by omega) (by omega) (by rw [List.size_toArray, ← hl]; exact h1) (by simpa using ew) ⟨rfl, fin⟩) hs
theorem ix_str : IxR X rIxS := by
  intro value slice pins s σ H x y v u Q I rx ry h hs
  obtain ⟨z, i, c, rfl, rfl, hz, he, q⟩ := h
  obtain ⟨t, rfl⟩ := rx
  obtain ⟨t', rfl⟩ := ry
  obtain ⟨j, h1, h2, h3, h4, h5⟩ := atI_get he
  have hl : z.cps.toList.length = z.length := by simp [Str.length]
  rw [hl] at h1 h4 h5
  have hn := line63
  exact tail_any (typeIs_str s z t) slot_str_getitem.lookup (getItem_str (c := c) (by
    have e1 : decide (i < -(2 ^ 63 : Int)) = false := decide_eq_false (by omega)
    have e2 : decide (i ≥ 2 ^ 63) = false := decide_eq_false (by omega)
    rw [e1, e2, Bool.or_false]) (by rw [h1]; simpa using h2) ⟨.str ⟨#[c]⟩, H, I.tok _, ⟨_, rfl⟩, q⟩) hs
theorem mapSeq_set (its : List Value) (n j : Nat) (u : Value) : Obj.mapSeq (·.setIfInBounds j u) { cls := .type "list", data := .seq its.toArray n } = { cls := .type "list", data := .seq (its.set j u).toArray n } := by
  simp [Obj.mapSeq]
theorem Inv.lst {pins : List (Addr × Obj)} {σ : St} {H : Hp} {s : Shared} {p : Addr} {xs : List V} (I : Inv X pins σ H s) (h : H p = some (.lst xs)) :
    ∃ (its : List Value) (n : Nat), Vals xs its ∧ s.heap.get? p = some { cls := .type "list", data := .seq its.toArray n } ∧ xs.length ≤ sizeLine := by
  obtain ⟨z, its, n, r, e⟩ := I.hok p _ h
  exact ⟨its, n, r, e, z⟩
theorem Inv.lstUpd {pins : List (Addr × Obj)} {σ : St} {H : Hp} {s : Shared} {p : Addr} {xs ys : List V} {its its' : List Value} {n n' : Nat} {f : Obj → Obj} (I : Inv X pins σ H s) (h : H p = some (.lst xs))
    (ho : s.heap.get? p = some { cls := .type "list", data := .seq its.toArray n }) (hf : f { cls := .type "list", data := .seq its.toArray n } = { cls := .type "list", data := .seq its'.toArray n' }) (r : Vals ys its') (hz : ys.length ≤ sizeLine) (t : Nat) :
    Inv X pins σ (upd H p (.lst ys)) { s with heap := s.heap.update p f, toks := t } := by
  have e : (s.heap.update p f).get? p = some { cls := .type "list", data := .seq its'.toArray n' } := by
    rw [Heap.get?_update_self f ho (by rw [hf] <;> rfl), hf]
  refine I.write (x := p) (e := p) (by rw [h]; trivial) (.inl rfl) (fun b u hb q => (Heap.get?_update_other _ _ (Ne.symm hb)).trans q) ⟨_, e⟩ ?_
  exact ⟨hz, its', n', r, e⟩
def rSetL : V → V → V → Hp → (Hp → Prop) → Prop := fun o i v H Q => ∃ p xs k j, o = .ref p ∧ i = .int k ∧ H p = some (.lst xs) ∧ ixN xs.length k = some j ∧ Q (upd H p (.lst (xs.set j v)))
theorem set_list : PSet X rSetL := by
  intro pins s σ H o i v ov iv u Q I ro ri rv h
  obtain ⟨p, xs, k, j, rfl, rfl, hp, hj, q⟩ := h
  cases ro
  obtain ⟨t, rfl⟩ := ri
  obtain ⟨its, n, r, ho, hz⟩ := I.lst hp
  obtain ⟨h1, h2, h3, h4⟩ := ixN_seq hj
  have hl := r.length
  have hn := line63
  have I' : Inv X pins σ (upd H p (.lst (xs.set j v))) { s with heap := s.heap.update p (Obj.mapSeq (·.setIfInBounds j u)) } :=
    I.lstUpd hp ho (mapSeq_set its n j u) (r.set rv j) (by rw [List.length_set]; exact hz) s.toks
  by_cases h0 : 0 ≤ k
  · have hk : k.toNat = j := by
      rw [seqIndex_of h0 h4] at h1
      exact Option.some.inj h1
    exact PySem.W.ki_setAt ho h0 (by omega) (by rw [List.size_toArray, ← hl]; exact h4) (by rw [hk]; exact ⟨_, I', q⟩)
  · have hk : (k + (its.toArray.size : Int)).toNat = j := by
      rw [seqIndex_neg (by omega) h3] at h1
      rw [List.size_toArray, ← hl]
      exact Option.some.inj h1
    exact PySem.W.ki_setBack ho (by omega) (by rw [List.size_toArray, ← hl]; exact h3) (by omega) (by rw [hk]; exact ⟨_, I', q⟩)
theorem slice_bounds (lo hi : Option Int) (n : Nat) : (sliceBounds lo hi none n).1 = ((HT.sIx n 0 lo : Nat) : Int) ∧ (sliceBounds lo hi none n).2.1 = ((HT.sIx n n hi : Nat) : Int) ∧ (sliceBounds lo hi none n).2.2 = 1 := by
  refine ⟨?_, ?_, rfl⟩
  · cases lo with
    | none => simp [sliceBounds, HT.sIx]
    | some i =>
      simp only [sliceBounds, HT.sIx, Option.getD_none, show (1 : Int) > 0 by decide, if_true]
      by_cases h : i < 0
      · simp only [h, if_true] <;> omega
      · simp only [h, if_false] <;> omega
  · cases hi with
    | none => simp [sliceBounds, HT.sIx]
    | some i =>
      simp only [sliceBounds, HT.sIx, Option.getD_none, show (1 : Int) > 0 by decide, if_true]
      by_cases h : i < 0
      · simp only [h, if_true] <;> omega
      · simp only [h, if_false] <;> omega
theorem slicePick_cut (its : List Value) (lo hi : Option Int) : slicePick its.toArray lo hi none = ((its.drop (HT.sIx its.length 0 lo)).take (HT.sIx its.length its.length hi - HT.sIx its.length 0 lo)).toArray := by
  obtain ⟨h1, h2, h3⟩ := slice_bounds lo hi its.toArray.size
  unfold slicePick
  rw [h1, h2, h3]
  simp only [sliceRange_one, pick_run, List.size_toArray] <;> rfl
def rSlL (K : PySem.W.Frag) : V → Option Int → Option Int → Hp → VK → Prop := fun x lo hi H Q => ∃ a xs, x = .ref a ∧ SqL K H a xs ∧ ∀ p, H p = none → Q (.ref p) (upd H p (.lst (cutV xs lo hi)))
theorem sl_list : SlR X (rSlL X.K) := by
  intro pins s σ H x v vl vu lo hi sl Q I rx hs pl pu h
  obtain ⟨a, xs, rfl, hx, q⟩ := h
  cases rx
  obtain ⟨its, r, ht, hz⟩ := I.list hx
  have hlen := r.length
  refine ⟨"list", _, slot_list_getitem.lookup, ht.isList.typeIs, ?_⟩
  refine wpAny_getItem_list_slice ht.isList hs pl pu .none (by simp) ?_ (by rw [List.size_toArray] <;> omega)
  rw [slicePick_cut, ← hlen]
  refine ⟨.ref s.heap.objs.size, _, I.laid (t' := s.toks) (o := .lst (cutV xs lo hi)) (fun b ob q => Heap.get?_push_of_some _ q) (Nat.le_refl _) ?_, rfl, q _ (I.hok.fresh (Nat.le_refl _))⟩
  exact ⟨Nat.le_trans (cutV_length xs lo hi) hz, _, 0, (r.drop (HT.sIx xs.length 0 lo)).take (HT.sIx xs.length xs.length hi - HT.sIx xs.length 0 lo), Heap.get?_push_size _ rfl⟩
def flatV : V → Bool
  | .non => true
  | .bl _ => true
  | .int _ => true
  | .str _ => true
  | _ => false
def eqV : V → V → Bool
  | .non, .non => true
  | .bl a, .bl b => a == b
  | .bl a, .int b => (if a then 1 else 0) == b
  | .int a, .bl b => a == (if b then 1 else 0)
  | .int a, .int b => a == b
  | .str a, .str b => a == b
  | _, _ => false
theorem eqAt_V {A : Around} {s : Shared} {y x : V} {u v : Value} (ry : RelV y u) (rx : RelV x v) (fy : flatV y = true) (fx : flatV x = true) : SeqAt.EqAt A s u v (eqV y x) := by
  cases y with
  | non =>
    cases ry
    cases x with
    | non => cases rx; exact SeqAt.EqAt.same _
    | bl b => cases rx; exact SeqAt.EqAt.none_bool b
    | int b => obtain ⟨t, rfl⟩ := rx; exact SeqAt.EqAt.none_int b t
    | str b => obtain ⟨t, rfl⟩ := rx; exact SeqAt.EqAt.none_str b t
    | _ => exact absurd (show false = true from fx) Bool.false_ne_true
  | bl a =>
    cases ry
    cases x with
    | non => cases rx; exact SeqAt.EqAt.bool_none a
    | bl b => cases rx; exact SeqAt.EqAt.bool_bool a b
    | int b => obtain ⟨t, rfl⟩ := rx; exact SeqAt.EqAt.bool_int a b t
    | str b => obtain ⟨t, rfl⟩ := rx; exact SeqAt.EqAt.bool_str a b t
    | _ => exact absurd (show false = true from fx) Bool.false_ne_true
  | int a =>
    obtain ⟨t', rfl⟩ := ry
    cases x with
    | non => cases rx; exact SeqAt.EqAt.int_none a t'
    | bl b => cases rx; exact SeqAt.EqAt.int_bool a t' b
    | int b => obtain ⟨t, rfl⟩ := rx; exact SeqAt.EqAt.int_int a t' b t
    | str b => obtain ⟨t, rfl⟩ := rx; exact SeqAt.EqAt.int_str a t' b t
    | _ => exact absurd (show false = true from fx) Bool.false_ne_true
  | str a =>
    obtain ⟨t', rfl⟩ := ry
    cases x with
    | non => cases rx; exact SeqAt.EqAt.str_none a t'
    | bl b => cases rx; exact SeqAt.EqAt.str_bool a t' b
    | int b => obtain ⟨t, rfl⟩ := rx; exact SeqAt.EqAt.str_int a t' b t
    | str b => obtain ⟨t, rfl⟩ := rx; exact SeqAt.EqAt.str_str a t' b t
    | _ => exact absurd (show false = true from fx) Bool.false_ne_true
  | _ => exact absurd (show false = true from fy) Bool.false_ne_true
def eqU (x : V) (u : Value) : Bool := match u with
  | .none => eqV .non x
  | .bool b => eqV (.bl b) x
  | .int i _ => eqV (.int i) x
  | .str z _ => eqV (.str z) x
  | _ => false
theorem eqU_of {x y : V} {u : Value} (r : RelV y u) (f : flatV y = true) : eqU x u = eqV y x := by
  cases y with
  | non => cases r; rfl
  | bl b => cases r; rfl
  | int i => obtain ⟨t, rfl⟩ := r; rfl
  | str z => obtain ⟨t, rfl⟩ := r; rfl
  | _ => exact absurd (show false = true from f) Bool.false_ne_true
theorem mem_eqAt {A : Around} {s : Shared} {x : V} {v : Value} (rx : RelV x v) (fx : flatV x = true) : ∀ {xs : List V} {us : List Value}, Vals xs us → xs.all flatV = true → ∀ u ∈ us, SeqAt.EqAt A s u v (eqU x u)
  | _, _, .nil, _ => fun u hu => by cases hu
  | y :: xs, u :: us, .cons r t, f => fun u' hu => by
    rw [List.all_cons, Bool.and_eq_true] at f
    rcases List.mem_cons.mp hu with rfl | hu
    · rw [eqU_of r f.1]; exact eqAt_V r rx f.1 fx
    · exact mem_eqAt rx fx t f.2 u' hu
theorem call_len_seq : CallR X (.builtin "len") (fun xs H Q => ∃ p ys, xs = [.ref p] ∧ (SqL X.K H p ys ∨ SqT X.K H p ys) ∧ Q (.int ys.length) H) := by
  intro pins s σ H xs us Q I r h
  obtain ⟨p, ys, rfl, hq, q⟩ := h
  obtain ⟨u, rfl, rx⟩ := vals1 r
  cases rx
  have hn := line63
  rcases hq with hq | hq
  · obtain ⟨its, r', pl, hz⟩ := I.list hq
    have hlen := r'.length
    exact Calls.call_len_list pl.isList (by simp only [List.size_toArray] <;> omega) ⟨.int ys.length, H, I.tok _, ⟨s.toks + 1, by rw [List.size_toArray, hlen]⟩, q⟩
  · obtain ⟨its, r', pl, hz⟩ := I.tuple hq
    have hlen := r'.length
    exact len_tuple pl (by simp only [List.size_toArray] <;> omega) ⟨.int ys.length, H, I.tok _, ⟨s.toks + 1, by rw [List.size_toArray, hlen]⟩, q⟩
theorem call_len_str : CallR X (.builtin "len") (fun xs H Q => ∃ z, xs = [.str z] ∧ z.length ≤ sizeLine ∧ Q (.int z.length) H) := by
  intro pins s σ H xs us Q I r h
  obtain ⟨z, rfl, hz, q⟩ := h
  obtain ⟨u, rfl, t, rfl⟩ := vals1 r
  have hn := line63
  exact len_str (by omega) ⟨.int z.length, H, I.tok _, ⟨_, rfl⟩, q⟩
theorem call_list_of : CallR X (.type "list") (fun xs H Q => ∃ p ys, xs = [.ref p] ∧ (SqL X.K H p ys ∨ SqT X.K H p ys) ∧ ∀ l, H l = none → Q (.ref l) (upd H l (.lst ys))) := by
  intro pins s σ H xs us Q I r h
  obtain ⟨p, ys, rfl, hq, q⟩ := h
  obtain ⟨u, rfl, rx⟩ := vals1 r
  cases rx
  have fin : ∀ (its : List Value), Vals ys its → ys.length ≤ sizeLine → ∀ (h' : Heap) (c' : Nat), (∀ b o', s.heap.get? b = some o' → h'.get? b = some o') →
      h'.get? s.heap.objs.size = some { cls := .type "list", dict := none, data := .seq its.toArray c', slots := #[] } → EP X pins σ Q (.ref s.heap.objs.size) { s with heap := h' } := fun its r' hz h' c' kp e =>
    ⟨.ref s.heap.objs.size, _, I.laid (t' := s.toks) kp (Nat.le_refl _) (show ObjOk X.prog X.w _ h' _ (.lst ys) from ⟨hz, its, c', r', e⟩), rfl, q _ (I.hok.fresh (Nat.le_refl _))⟩
  rcases hq with hq | hq
  · obtain ⟨its, r', pl, hz⟩ := I.list hq
    have hlen := r'.length
    obtain ⟨o, ho, hc, n, hd⟩ := pl.isList
    exact call_list_seq p (.inl rfl) ho hc hd (fun h' c' kp e => fin its r' hz h' c' kp e) (by simp only [List.size_toArray] <;> omega)
  · obtain ⟨its, r', pl, hz⟩ := I.tuple hq
    have hlen := r'.length
    obtain ⟨o, ho, hc, n, hd⟩ := pl
    exact call_list_seq p (.inr rfl) ho hc hd (fun h' c' kp e => fin its r' hz h' c' kp e) (by simp only [List.size_toArray] <;> omega)
def tyV (K : PySem.W.Frag) (T : String) (x : V) (H : Hp) : Prop := match x with
  | .str _ => T = "str"
  | .int _ => T = "int"
  | .ref p => (T = "list" ∧ ∃ xs, SqL K H p xs) ∨ (T = "tuple" ∧ ∃ o, K.lookup p = some o ∧ o.cls = .type "tuple" ∧ o.dict = none) ∨
      (T = "dict" ∧ ((∃ kvs, H p = some (.dK kvs)) ∨ ∃ kvs, H p = some (.dT kvs))) ∨ (T = "set" ∧ ∃ S n, H p = some (.set S n))
  | _ => False
theorem tyV_is {pins : List (Addr × Obj)} {σ : St} {H : Hp} {s : Shared} {T : String} {x : V} {v : Value} (I : Inv X pins σ H s) (r : RelV x v) (ty : tyV X.K T x H) :
    s.TypeIs v T ∧ ∀ a, v = .ref a → ∃ ob, s.heap.get? a = some ob ∧ ob.dict = none := by
  cases x with
  | str z =>
    obtain ⟨t, rfl⟩ := r
    cases (show T = "str" from ty)
    exact ⟨typeIs_str s z t, fun _ e => nomatch e⟩
  | int i =>
    obtain ⟨t, rfl⟩ := r
    cases (show T = "int" from ty)
    exact ⟨typeIs_int s i t, fun _ e => nomatch e⟩
  | ref p =>
    cases r
    rcases ty with ⟨rfl, xs, hq⟩ | ⟨rfl, o, hk, hc, hd⟩ | ⟨rfl, hk⟩ | ⟨rfl, S, n, hk⟩
    · obtain ⟨its, _, pl, _⟩ := I.list hq
      refine ⟨pl.isList.typeIs, fun a e => ?_⟩
      cases e
      obtain ⟨o, n, e, c, hd, _⟩ := pl
      exact ⟨o, e, hd⟩
    · refine ⟨⟨o, I.kIn p o hk, hc⟩, fun a e => ?_⟩
      cases e
      exact ⟨o, I.kIn _ o hk, hd⟩
    · have z : ∃ o, s.heap.get? p = some o ∧ o.ExactDict := by
        rcases hk with ⟨kvs, hk⟩ | ⟨kvs, hk⟩
        · obtain ⟨_, _, _, _, o, _, _, e, ex, _⟩ := I.hok p _ hk
          exact ⟨o, e, ex⟩
        · obtain ⟨_, _, _, _, o, _, _, e, ex, _⟩ := I.hok p _ hk
          exact ⟨o, e, ex⟩
      obtain ⟨o, e, ex⟩ := z
      refine ⟨⟨o, e, ex.1⟩, fun a e2 => ?_⟩
      cases e2
      exact ⟨o, e, ex.2.1⟩
    · obtain ⟨o, _, _, _, e, ex, _⟩ := I.hok p _ hk
      refine ⟨⟨o, e, ex.1⟩, fun a e2 => ?_⟩
      cases e2
      exact ⟨o, e, ex.2.1⟩
  | _ => exact False.elim ty
def tBM0 (K : PySem.W.Frag) (T : String) (r : V → List V → Hp → VK → Prop) (to : TE) : TE := fun σ H Q => to σ H fun x H1 => tyV K T x H1 ∧ r x [] H1 Q
def tBM (K : PySem.W.Frag) (T : String) (r : V → List V → Hp → VK → Prop) (to : TE) (t : TA) : TE := fun σ H Q => to σ H fun x H1 => tyV K T x H1 ∧ t σ H1 fun xs H2 => r x xs H2 Q
variable {o e : Expr} {es : List Expr} {to : TE} {t : TA} {name : Str} {apos cpos : Pos} {T id : String} {r : V → List V → Hp → VK → Prop}
theorem pe_bm0 (pa : PlainAttrs T) (slot : Slot T name id) (hty : typeOf (.builtin id) = pure (.type "method_descriptor")) (hm : MtR X id r) (ho : PE X o to)
    (hbase : attributeBase o name X.env (eval o X.env) = eval o X.env := by rfl) (hline : (apos.endLine == cpos.line) = true := by rfl) : PE X (.Call (.Attribute o name apos) [] [] cpos) (tBM0 X.K T r to) := by
  intro pins s σ H Q I h
  refine wpAny_Call_method0_late hbase hline (thn (ho pins s σ H _ I h) fun v s1 ⟨x, H1, I1, r1, ty, q1⟩ => ?_)
  obtain ⟨h1, h2⟩ := tyV_is I1 r1 ty
  exact ⟨T, id, pa, slot, hty, h1, h2, Calls.callWith_builtin rfl (PySem.evalArgs_none (hm pins s1 σ H1 x [] v [] Q I1 r1 .nil q1))⟩
theorem pe_bm (pa : PlainAttrs T) (slot : Slot T name id) (hty : typeOf (.builtin id) = pure (.type "method_descriptor")) (hm : MtR X id r) (ho : PE X o to) (ha : PA X (e :: es) t)
    (hbase : attributeBase o name X.env (eval o X.env) = eval o X.env := by rfl)
    (hfew : ((backTo cpos (starEach (e :: es) X.env)).all (fun x => !x.1) && (backToKw cpos (keywordEach [] X.env)).all (fun x => x.1.isSome)
      && decide ((e :: es).length + ([] : List Keyword).length + (if ([] : List Keyword).isEmpty then 0 else 1) < 30)) = true := by rfl)
    (hline : (apos.endLine == cpos.line) = true := by rfl) (hs : starEach (e :: es) X.env = (false, eval e X.env) :: starEach es X.env := by rfl) (hplain : (backTo cpos (starEach es X.env)).any (·.1) = false := by rfl) :
    PE X (.Call (.Attribute o name apos) (e :: es) [] cpos) (tBM X.K T r to t) := by
  intro pins s σ H Q I h
  refine wpAny_Call_method_late hbase hfew hline rfl (thn (ho pins s σ H _ I h) fun v s1 ⟨x, H1, I1, r1, ty, q1⟩ => ?_)
  obtain ⟨h1, h2⟩ := tyV_is I1 r1 ty
  refine ⟨T, id, pa, slot, hty, h1, h2, ?_⟩
  have hA := ha cpos pins s1 σ H1 _ I1 q1
  rw [hs] at hA ⊢
  refine Calls.callWith_builtin (by show (false || (backTo cpos (starEach es X.env)).any (·.1)) = false; rw [hplain] <;> rfl) (Calls.evalArgs_plain ?_)
  exact thn hA fun us s2 ⟨vs, H2, I2, r2, q2⟩ => hm pins s2 σ H2 x vs v us Q I2 r1 r2 q2
end
end L2
namespace L2
open PySem PySem.Spec PyProof.Rows
def MtM (X : Cx) (id : String) (r : V → List V → Hp → VK → Prop) : Prop :=
  ∀ (pins : List (Addr × Obj)) (s : Shared) (σ : St) (H : Hp) (x : V) (xs : List V) (v : Value) (us : List Value) (Q : VK), Inv X pins σ H s → RelV x v → Vals xs us → r x xs H Q →
    wpAny (model X.prog X.w) X.A (call (.builtin id) (v :: us)) (EP X pins σ Q) X.xe s
theorem Vals.one : ∀ {x : V} {us : List Value}, Vals [x] us → ∃ u, us = [u] ∧ RelV x u
  | _, _, .cons r .nil => ⟨_, rfl, r⟩
theorem Vals.zero : ∀ {us : List Value}, Vals [] us → us = []
  | _, .nil => rfl
theorem Vals.rep {xs : List V} {us : List Value} (h : Vals xs us) : ∀ k : Nat, Vals (List.replicate k xs).flatten (List.replicate k us).flatten
  | 0 => .nil
  | k + 1 => by
    rw [List.replicate_succ, List.replicate_succ, List.flatten_cons, List.flatten_cons]
    exact Vals.append h (Vals.rep h k)
theorem foldl_rep (its : List Value) : ∀ (k : Nat) (acc : List Value),
    List.foldl (fun x1 x2 => x1 ++ x2) acc.toArray (List.replicate k its.toArray) = (acc ++ (List.replicate k its).flatten).toArray
  | 0, acc => by simp
  | k + 1, acc => by
    have e : acc.toArray ++ its.toArray = (acc ++ its).toArray := by simp
    have e2 : (acc ++ its) ++ (List.replicate k its).flatten = acc ++ (List.replicate (k + 1) its).flatten := by
      rw [List.replicate_succ, List.flatten_cons, List.append_assoc]
    rw [← e2, ← foldl_rep its k (acc ++ its), ← e, List.replicate_succ, List.foldl_cons]
section
variable {X : Cx} {pins : List (Addr × Obj)} {σ : St} {H : Hp} {s : Shared} {l b : Addr} {xs ys zs : List V}
theorem Inv.lset {its its' : List Value} {n : Nat} {f : Array Value → Array Value} {t' : Nat} (I : Inv X pins σ H s) (hH : H l = some (.lst xs))
    (e : s.heap.get? l = some { cls := .type "list", data := .seq its.toArray n }) (hf : f its.toArray = its'.toArray) (hv : Vals ys its') (hz : ys.length ≤ sizeLine) :
    Inv X pins σ (upd H l (.lst ys)) { s with heap := s.heap.update l (Obj.mapSeq f), toks := t' } := by
  have q := PySem.IsL.update e f
  rw [hf] at q
  refine I.write (x := l) (e := l) (by rw [hH]; exact trivial) (.inl rfl) (fun b' u hb hu => (Heap.get?_update_other s.heap (Obj.mapSeq f) (Ne.symm hb)).trans hu) ⟨_, q⟩ ?_
  exact ⟨hz, its', _, hv, q⟩
theorem Inv.lnew {its : List Value} {t' : Nat} (I : Inv X pins σ H s) (hv : Vals ys its) (hz : ys.length ≤ sizeLine) :
    Inv X pins σ (upd H s.heap.objs.size (.lst ys)) { s with heap := s.heap.push { cls := .type "list", data := .seq its.toArray }, toks := t' } :=
  I.laid (fun _ _ q => Heap.get?_push_of_some _ q) (Nat.le_refl _) ⟨hz, its, 0, hv, Heap.get?_push_size _ rfl⟩
theorem Inv.fresh (I : Inv X pins σ H s) : H s.heap.objs.size = none := I.hok.fresh (Nat.le_refl _)
theorem Inv.lstM (I : Inv X pins σ H s) (hH : H l = some (.lst xs)) : xs.length ≤ sizeLine ∧ ∃ (its : List Value) (n : Nat), Vals xs its ∧ xs.length = its.length ∧ s.heap.get? l = some { cls := .type "list", data := .seq its.toArray n } := by
  obtain ⟨z, its, n, r, e⟩ := I.hok l _ hH
  exact ⟨z, its, n, r, r.length, e⟩
theorem notLongL {n : Nat} (h : n ≤ sizeLine) : Builtin.List.listTooLong n = false := by
  unfold Builtin.List.listTooLong
  exact decide_eq_false (by omega)
end
section
variable {X : Cx}
def rAppend : V → List V → Hp → VK → Prop := fun x vs H Q => ∃ l xs y, x = .ref l ∧ vs = [y] ∧ H l = some (.lst xs) ∧ xs.length < sizeLine ∧ Q .non (upd H l (.lst (xs ++ [y])))
theorem mt_append : MtM X "list.append" rAppend := by
  intro pins s σ H x vs v us Q I rx rv h
  obtain ⟨l, xs, y, rfl, rfl, hH, hz, q⟩ := h
  cases rx
  obtain ⟨u, rfl, ru⟩ := rv.one
  obtain ⟨z, its, n, r, hl, e⟩ := I.lstM hH
  refine call_meets F.slot_list_append ⟨_, e, rfl⟩ F.entry_list_append (F.args_list_append_2 _ _) (PySem.list_append l its.toArray n u (by rw [List.size_toArray]; omega)) ⟨e, ?_⟩
  refine ⟨.non, _, I.lset (its' := its ++ [u]) hH e (by simp) (r.append (.cons ru .nil)) ?_, rfl, q⟩
  rw [List.length_append, List.length_singleton]
  omega
def rClear : V → List V → Hp → VK → Prop := fun x vs H Q => ∃ l xs, x = .ref l ∧ vs = [] ∧ H l = some (.lst xs) ∧ Q .non (upd H l (.lst []))
theorem mt_clear : MtM X "list.clear" rClear := by
  intro pins s σ H x vs v us Q I rx rv h
  obtain ⟨l, xs, rfl, rfl, hH, q⟩ := h
  cases rx
  have hus := rv.zero
  subst hus
  obtain ⟨z, its, n, r, hl, e⟩ := I.lstM hH
  refine call_meets F.slot_list_clear ⟨_, e, rfl⟩ F.entry_list_clear (F.args_list_clear_1 _) (AutoSeq1.list_clear_list_0 l its.toArray n (by rw [List.size_toArray]; omega)) ⟨e, ?_⟩
  exact ⟨.non, _, I.lset (its' := []) (ys := []) hH e rfl .nil (Nat.zero_le _), rfl, q⟩
def rRep : R2 := fun x y H Q => ∃ l k xs, x = .ref l ∧ y = .int k ∧ H l = some (.lst xs) ∧ -(2 ^ 63) ≤ k ∧ k < 2 ^ 63 ∧ xs.length * k.toNat ≤ sizeLine ∧
  ∀ p, H p = none → Q (.ref p) (upd H p (.lst (List.replicate k.toNat xs).flatten))
theorem len_rep {α : Type} (xs : List α) (k : Nat) : (List.replicate k xs).flatten.length = k * xs.length := by
  induction k with
  | zero => simp
  | succ k ih => rw [List.replicate_succ, List.flatten_cons, List.length_append, ih, Nat.succ_mul, Nat.add_comm]
theorem op_rep : OpR X (binaryOp .Mult) rRep := by
  intro pins s σ H x y v u Q I rx ry h
  obtain ⟨l, k, xs, rfl, rfl, hH, h1, h2, hz, q⟩ := h
  cases rx
  obtain ⟨t, rfl⟩ := ry
  obtain ⟨z, its, n, r, hl, e⟩ := I.lstM hH
  have hlen : its.toArray.size * k.toNat ≤ sizeLine := by rw [List.size_toArray, ← hl]; exact hz
  have hcap : ¬ its.toArray.size * k.toNat > (2 ^ 63 - 1) / 8 := by
    have : (sizeLine : Nat) ≤ (2 ^ 63 - 1) / 8 := by decide
    omega
  have hfit : ¬ (!Builtin.List.listFitsIndex k) = true := by
    rw [fitsIndex_both h1 h2]
    exact Bool.false_ne_true
  have hlong : ¬ Builtin.List.listTooLong (its.toArray.size * k.toNat) = true := by
    rw [notLongL hlen]
    exact Bool.false_ne_true
  have hnew : List.foldl (fun x1 x2 => x1 ++ x2) #[] (List.replicate (if its.toArray.isEmpty = true then 0 else k.toNat) its.toArray) = (List.replicate k.toNat its).flatten.toArray := by
    have f0 : ∀ m : Nat, List.foldl (fun x1 x2 => x1 ++ x2) #[] (List.replicate m its.toArray) = (List.replicate m its).flatten.toArray := fun m => by
      have := foldl_rep its m []
      rw [List.nil_append] at this
      exact this
    rw [f0]
    cases its with
    | nil => simp
    | cons a r' => rw [if_neg (by simp)]
  refine wpAny_binaryOp_repeat_ref (T := "list") (U := "int") (by decide) ⟨_, e, rfl⟩ (fun s' => typeIs_int s' k t) noFill_list_mul F.fills_int_mul F.slot_int_rmul repeat_list F.slot_int_index.lookup
    (call_meets F.slot_int_rmul (typeIs_int s k t) F.entry_int_rmul (F.args_int_rmul_2 _ _) (int___rmul___int_list k t l its.toArray n)
      ⟨e, rfl, ⟨_, e, rfl⟩, call_meets F.slot_list_mul ⟨_, e, rfl⟩ F.entry_list_mul (F.args_list_mul_2 _ _) (AutoListH.list___mul___list_int_3 l its.toArray n k t hfit hcap hlong) ⟨e, ?_⟩⟩)
  rw [hnew]
  exact ⟨.ref _, _, I.lnew (t' := s.toks) (r.rep k.toNat) (by rw [len_rep, Nat.mul_comm]; exact hz), rfl, q _ I.fresh⟩
end
section
variable {prog : Program} {w : World} {A : Around} {E : Value → Shared → Prop} {s : Shared}
end
section
variable {X : Cx}
end
end L2
namespace Att
open PySem PySem.W PySem.Calls PyProof.Rows
theorem ints_of_wellAll {P : Params} {h : Heap} : ∀ (ns : List Int) (vs : List Value), WellAll P h vs (ns.map WData.int) → IntsAre vs ns := by
  intro ns
  induction ns with
  | nil =>
    intro vs w
    rw [List.map_nil] at w
    cases w
    exact .nil
  | cons n ns ih =>
    intro vs w
    rw [List.map_cons] at w
    cases w with
    | cons a b =>
      cases a
      exact .cons _ _ (ih _ b)
theorem script_of {l : OpenLaw} {n : Nat} (hn : l.most = some n) {P : Params} {h : Heap} {args : List WData} {vals : List Value}
    (hpre : l.row.toRowW.claim.pre args = true) (hwl : WellAll P h vals args) :
    ∃ a vs ns, vals = [Value.ref a] ∧ args = [WData.list (ns.map WData.int)] ∧ h.get? a = some { cls := .type "list", data := .seq vs.toArray } ∧ IntsAre vs ns ∧ ns.length ≤ n := by
  have hsh : WShape.hasAll [] args [.list .int] = true := (pre_splitW hpre).1
  have hc : l.pre.holds [] { args := args } = true := (pre_splitW hpre).2
  obtain ⟨d, r, rfl, h1, h2⟩ := hasAllW_cons hsh
  obtain rfl := hasAllW_nil h2
  obtain ⟨xs, rfl, h3⟩ := hasW_list h1
  obtain ⟨ns, rfl⟩ := items_int h3
  have hlen : ns.length ≤ n := by
    unfold OpenLaw.pre at hc
    have h4 : (WTm.not (.lt (.lit (.int (n : Int))) (.len (.arg 0)))).holds [] { args := [.list (ns.map .int)] } = true := by
      have h4 := (holds_andW hc).1
      rw [hn] at h4
      exact h4
    have h5 := condW_of h4 (w_not (w_lt w_lit (w_len_list (w_arg rfl))))
    rw [List.length_map] at h5
    refine Nat.le_of_not_lt fun q => ?_
    have q' : (n : Int) < ((ns.length : Nat) : Int) := by omega
    first
      | (rw [decide_eq_true q'] at h5; exact absurd h5 (by decide))
      | (simp at h5; omega)
  cases hwl with
  | cons w1 w2 =>
    cases w2
    cases w1 with
    | list ho hall => exact ⟨_, _, ns, rfl, rfl, ho, ints_of_wellAll ns _ hall, hlen⟩
theorem post_true (l : OpenLaw) (args : List WData) : l.row.toRowW.claim.post args (.bool true) args = true :=
  postW_of (r := l.row.toRowW) (X := (true == true))
    (show WShape.has [] (.bool true) .bool = true by first | rfl | decide | simp [WShape.has, WShape.arms, WShape.armsAll])
    (show (WTm.eq .res (.lit (.bool true))).value [] { args := args, res := some (.bool true), after := args } = some (.bool (true == true)) from w_eq_bool (w_res rfl) w_lit) rfl
theorem attach_call {l : OpenLaw} {n : Nat} {q : Program} {loose : List Str} {XP : (Str → Option Value) → Heap → Prop} {YP : World → Heap → Prop} {d : DefRec}
    (hn : l.most = some n) (hdf : d.params.defaults = [])
    (call : ∀ (w : World) (s₀ s₁ : Shared) (mg mb : Str → Option Value) (fa : Addr) (o : Obj) (pm cd doc : Value) (a : Addr) (vs : List Value) (ns : List Int),
      Ground q loose [] XP w s₀ mg mb s₁.heap → YP w s₁.heap →
      s₁.heap.get? fa = some o → o.data = .func (docDef d.name d.params d.body d.scope pm cd doc) → s₁.heap.CodeRec cd d.name → mg d.name = some (.ref fa) →
      s₁.heap.get? a = some { cls := .type "list", data := .seq vs.toArray } → IntsAre vs ns → ns.length ≤ n → s₁.gens = #[] →
      codeAny (model l.prog w) callerA (.call (.ref fa) ⟨[.ref a], []⟩) (fun r s' => r = .ok (.ret (.bool true)) ∧ OldK s₁.heap s'.heap ∧ s'.os = s₁.os ∧ AllBare s'.gens) s₁) :
    WalkO q loose XP YP l.row.toRowW d [] (fun f vs => PySem.call f vs) := by
  intro w s₀ s₁ mg mb G Y fa o pm cd doc dV kV ho hd hcd hD hmg hg args vals as hpre hlay hrd hwl hlo
  obtain rfl : dV = .none := Dflts.none hD hdf
  obtain rfl : kV = .none := Dflts.noKw hD
  obtain ⟨a, vs, ns, rfl, rfl, hobj, hints, hlen⟩ := script_of hn hpre hwl
  refine enter_call (codeAny_mono (call w s₀ s₁ mg mb fa o pm cd doc a vs ns G Y ho (fd_plain hd) hcd hmg hobj hints hlen hg) fun r s' hq => ?_)
  obtain ⟨rfl, h2, h3, h4⟩ := hq
  exact ⟨.inl ⟨.bool true, .bool true, [], rfl, fun _ => rfl, .bool true, post_true l _, fun _ => ⟨List.Pairwise.nil, fun _ hm => (nomatch hm)⟩⟩, h2, h3, h4⟩
section
variable {prog : Program} {w : World} {A : Around} {E : Value → Shared → Prop} {s : Shared} {K : Frag}
end
end Att
namespace L2
open PySem PySem.Spec PyProof.Rows
theorem vals_ints : ∀ {vs : List Value} {ns : List Int}, IntsAre vs ns → Vals (ns.map V.int) vs
  | _, _, .nil => .nil
  | _, _, .cons n t h => .cons ⟨t, rfl⟩ (vals_ints h)
def Only (H : Hp) : Prop := ∀ b, H b = none ∨ ∃ o xs, H b = some (.frz o (.lst xs))
theorem law_call {P : Program} {w : World} {K : PySem.W.Frag} {mg mb : Str → Option Value} {CX : CXT} {k : Nat} {fa a : Addr} {fd : FuncData} {x : Str} {sp : Sp} {s₁ : Shared} {vs : List Value} {ns : List Int}
    (KX : K.In s₁.heap) (hns : s₁.heap.Ns mainGlobals mg) (hb : s₁.heap.Ns builtinsNs mb) (hbb : ∀ x : Str, x ≠ "__name__" → mb x = bootBuiltins x) (hlim : s₁.heap.NoLimit) (hg : s₁.gens = #[])
    (ha : s₁.heap.get? a = some { cls := .type "list", data := .seq vs.toArray }) (hi : IntsAre vs ns) (hl : ns.length ≤ sizeLine) (hr : Room k callerA)
    (F : ∀ base : Heap, K.In base → base.Ns mainGlobals mg → FnOk P w K mg base CX k fa fd [x] sp) (hbind : ∀ (s : Shared) (u : Value), BindsTo s fd ⟨[u], []⟩ [(x, u)])
    (hsp : ∀ H : Hp, Only H → SqL K H a (ns.map V.int) → sp [.ref a] H (fun v _ => v = .bl true) fun _ _ _ => False)
    (hCX : ∀ H e s', CX [] H s₁ (fun _ _ _ => False) e s' → False) :
    codeAny (model P w) callerA (.call (.ref fa) ⟨[.ref a], []⟩) (fun r s' => r = .ok (.ret (.bool true)) ∧ OldK s₁.heap s'.heap ∧ s'.os = s₁.os ∧ AllBare s'.gens) s₁ := by
  have rv := vals_ints hi
  have lenV := hi.length
  have core : ∀ H : Hp, Only H → SqL K H a (ns.map V.int) → HOk P w H s₁.heap → (∀ b, H b ≠ none → b = a) → (H a ≠ none → K.lookup a = none) →
      codeAny (model P w) callerA (.call (.ref fa) ⟨[.ref a], []⟩) (fun r s' => r = .ok (.ret (.bool true)) ∧ OldK s₁.heap s'.heap ∧ s'.os = s₁.os ∧ AllBare s'.gens) s₁ := by
    intro H hO hS hok hA hK
    have base_of : ∀ {b : Addr} {o : Obj}, s₁.heap.get? b = some o → H b = none → (hidT s₁.heap H).get? b = some o := fun e n => hidT_get e n
    have noA : ∀ {b : Addr} {o : Obj} {es : Array DictEntry} {ep : Nat}, s₁.heap.get? b = some o → o.data = .dict es ep → H b = none := fun {b o es ep} e d => by
      cases q : H b with
      | none => rfl
      | some u =>
        have e' : b = a := hA b (by rw [q]; simp)
        subst e'
        rw [ha] at e; cases e
        have d' : Data.seq vs.toArray _ = Data.dict es ep := d
        cases d'
    have nsK : ∀ {b : Addr} {m : Str → Option Value}, s₁.heap.Ns b m → (hidT s₁.heap H).Ns b m := fun {b m} ⟨o, es, ep, e, d, r⟩ => ⟨o, es, ep, base_of e (noA e d), d, r⟩
    have hKb : K.In (hidT s₁.heap H) := fun b o e => base_of (KX b o e) (by
      cases q : H b with
      | none => rfl
      | some u =>
        have e' : b = a := hA b (by rw [q]; simp)
        subst e'
        rw [hK (by rw [q]; simp)] at e; cases e)
    have hM : Mod K mg (hidT s₁.heap H) := ⟨hKb, nsK hns, ⟨mb, nsK hb, hbb⟩, let ⟨mc, h1, h2⟩ := hlim; ⟨mc, nsK h1, h2⟩⟩
    have e0 : Env0 P w K mg (hidT s₁.heap H) callerA [] s₁ H := ⟨rfl, hM, fun b o e => of_hidT e, Nat.le_of_eq (hidT_size _ _), trivial, fun b hb => absurd (show b ∈ ([] : List Addr) from hb) (by simp), hok, .of_eq hg⟩
    refine codeAny_mono ((F _ hKb (nsK hns)).run callerA [] s₁ H ⟨[.ref a], []⟩ [.ref a] [.ref a] _ _ hr e0 (hbind s₁ (.ref a)) (.cons rfl .nil) (hsp H hO hS)) fun r s' h => ?_
    cases r with
    | error e => exact (hCX H e s' h).elim
    | ok fl =>
      cases fl with
      | next => exact False.elim h
      | brk => exact False.elim h
      | cont => exact False.elim h
      | ret u =>
        obtain ⟨v, H', os, bare, un, hok', r', q⟩ := h
        have q' : v = .bl true := q
        subst q'
        obtain rfl : u = Value.bool true := r'
        refine ⟨rfl, OldK.of_keep fun b o e => ?_, os, bare⟩
        cases q : H b with
        | none => exact un.keep b o e q (by intro z; exact absurd (show b ∈ ([] : List Addr) from z) (by simp)) (by simp)
        | some u =>
          rcases hO b with z | ⟨ob, xs, z⟩
          · rw [q] at z; cases z
          · have z2 := un.frzs b ob _ z
            obtain ⟨e1, _⟩ := hok b _ z
            obtain ⟨e2, _⟩ := hok' b _ z2
            rw [e] at e1; cases e1
            exact e2
  cases hk : K.lookup a with
  | some o =>
    have e := KX a o hk
    rw [ha] at e
    cases e
    refine core (fun _ => none) (fun _ => .inl rfl) (.inr ⟨_, vs.toArray, _, hk, rfl, rfl, rfl, by rw [List.size_toArray, lenV]; exact hl, by simpa using rv⟩) (fun b u z => by have z' : (none : Option HO) = some u := z; cases z') (fun b z => absurd rfl z) fun z => absurd rfl z
  | none =>
    refine core (fun b => if b = a then some (.frz { cls := .type "list", data := .seq vs.toArray } (.lst (ns.map V.int))) else none) (fun b => ?_) (.inl (.inr ⟨{ cls := .type "list", data := .seq vs.toArray }, if_pos rfl⟩)) (fun b u z => ?_) (fun b z => ?_) fun _ => hk
    · by_cases hb : b = a
      · exact .inr ⟨_, _, if_pos hb⟩
      · exact .inl (if_neg hb)
    · by_cases hb : b = a
      · have z' := (if_pos hb).symm.trans z
        cases z'
        subst hb
        exact ⟨ha, by rw [List.length_map]; exact hl, vs, _, rv, ha⟩
      · have z' := (if_neg hb).symm.trans z
        cases z'
    · by_cases hb : b = a
      · exact hb
      · exact absurd (if_neg hb) z
end L2
namespace L2
open PySem PySem.Spec PyProof.Rows
theorem walk_of {l : PySem.W.OpenLaw} {n k : Nat} {q : Program} {loose : List Str} {XP : (Str → Option Value) → Heap → Prop} {YP : World → Heap → Prop} {d : DefRec} {K : Params → PySem.W.Frag} {CX : World → CXT} {sp : World → Sp} {x : Str}
    (hn : l.most = some n) (hn2 : n ≤ sizeLine) (hdf : d.params.defaults = []) (hr : Room k callerA)
    (hY : ∀ (w : World) (h : Heap), YP w h → (K w.params).In h)
    (F : ∀ (w : World) (mg : Str → Option Value) (fa : Addr) (h : Heap), (K w.params).In h → h.Ns mainGlobals mg → mg d.name = some (.ref fa) →
      ∃ fd : FuncData, (∀ (s : Shared) (u : Value), BindsTo s fd ⟨[u], []⟩ [(x, u)]) ∧
        ∀ base : Heap, (K w.params).In base → base.Ns mainGlobals mg → FnOk l.prog w (K w.params) mg base (CX w) k fa fd [x] (sp w))
    (hsp : ∀ (w : World) (H : Hp) (a : Addr) (ns : List Int), ns.length ≤ n → Only H → SqL (K w.params) H a (ns.map V.int) → sp w [.ref a] H (fun v _ => v = .bl true) fun _ _ _ => False)
    (hCX : ∀ (w : World) (H : Hp) (s : Shared) (e : Value) (s' : Shared), CX w [] H s (fun _ _ _ => False) e s' → False) :
    PySem.W.WalkO q loose XP YP l.row.toRowW d [] (fun f vs => PySem.call f vs) := by
  refine Att.attach_call hn hdf fun w s₀ s₁ mg mb fa o pm cd doc a vs ns G Y ho hd hcd hmg hobj hints hlen hg => ?_
  have KX := hY w _ Y
  obtain ⟨fd, hb, hF⟩ := F w mg fa _ KX G.T.g hmg
  exact law_call KX G.T.g G.T.b G.T.builtins G.T.nolimit hg hobj hints (Nat.le_trans hlen hn2) hr hF hb (fun H hO hS => hsp w H a ns hlen hO hS) fun H e s' => hCX w H s₁ e s'
end L2
namespace L2
open PySem PySem.Spec PyProof.Rows
def inClass (s : Stmt) (j : Nat) : Stmt := match s with
  | .ClassDef _ _ _ body _ _ _ _ _ _ _ => body.getD j (.Pass ⟨0, 0, 0, 0⟩)
  | _ => .Pass ⟨0, 0, 0, 0⟩
def defArgs (s : Stmt) : Arguments := match s with
  | .FunctionDef _ a _ _ _ _ _ _ _ _ => a
  | _ => { posonlyargs := [], args := [], vararg := none, kwonlyargs := [], kw_defaults := [], kwarg := none, defaults := [] }
def defBody (s : Stmt) : List Stmt := match s with
  | .FunctionDef _ _ b _ _ _ _ _ _ _ => b
  | _ => []
def defScope (s : Stmt) : Scope := match s with
  | .FunctionDef _ _ _ _ _ _ sc _ _ _ => sc
  | _ => { kind := .function, names := [], isGenerator := false, isCoroutine := false }
abbrev E0 : XK := fun _ _ _ => False
section
variable {P : Program} {w : World} {K : PySem.W.Frag} {mg : Str → Option Value} {base : Heap}
end
section
variable {X : Cx}
theorem pv (i : Nat) {x : Str} {pos : Pos} (hN : X.N[i]? = some x := by rfl) (hv : Vis X.env.scope x := by first | exact Or.inl rfl | exact Or.inr (Or.inl rfl) | exact Or.inr (Or.inr rfl)) (hd : (x == ("__debug__" : Str)) = false := by decide)
    (hcd : (x == ("__classdict__" : Str)) = false := by decide) : PE X (.Name x pos) (tVar i) := pe_var hN hv hd hcd
end
theorem iteF {A B : Prop} (h : B) : if false = true then A else B := by
  rw [if_neg Bool.false_ne_true]
  exact h
theorem iteT {A B : Prop} (h : A) : if true = true then A else B := by
  rw [if_pos rfl]
  exact h
def Same (H H' : Hp) : Prop := ∀ b o, H b = some o → H' b = some o
theorem Same.refl (H : Hp) : Same H H := fun _ _ h => h
theorem Same.trans {H H1 H2 : Hp} (a : Same H H1) (b : Same H1 H2) : Same H H2 := fun c o h => b c o (a c o h)
theorem Same.seq {K : PySem.W.Frag} {H H' : Hp} {a : Addr} {xs : List V} (e : Same H H') (h : SqL K H a xs) : SqL K H' a xs := by
  rcases h with (h | ⟨o, h⟩) | h
  · exact .inl (.inl (e _ _ h))
  · exact .inl (.inr ⟨o, e _ _ h⟩)
  · exact .inr h
end L2

namespace L2
open PySem PySem.Spec PyProof.Rows
section
variable {κ : Type} [DecidableEq κ]
def valV (kvs : List (κ × V)) (k : κ) : Option V := (kvs.find? fun kv => decide (kv.1 = k)).map (·.2)
def putK (kvs : List (κ × V)) (k : κ) (v : V) : List (κ × V) :=
  if (kvs.any fun kv => decide (kv.1 = k)) = true then kvs.map (fun kv => if kv.1 = k then (kv.1, v) else kv) else kvs ++ [(k, v)]
def dropK (kvs : List (κ × V)) (k : κ) : List (κ × V) := kvs.filter fun kv => decide (kv.1 ≠ k)
theorem valV_pos {p : κ × V} {r : List (κ × V)} {k : κ} (e : p.1 = k) : valV (p :: r) k = some p.2 := by simp [valV, List.find?_cons, e]
theorem valV_neg {p : κ × V} {r : List (κ × V)} {k : κ} (e : ¬ p.1 = k) : valV (p :: r) k = valV r k := by simp [valV, List.find?_cons, e]
theorem valV_any (k : κ) : ∀ kvs : List (κ × V), (kvs.any fun kv => decide (kv.1 = k)) = (valV kvs k).isSome
  | [] => rfl
  | p :: r => by
    rw [List.any_cons]
    by_cases e : p.1 = k
    · simp only [valV_pos e, decide_eq_true e, Bool.true_or, Option.isSome_some]
    · rw [valV_neg e, decide_eq_false e, Bool.false_or]; exact valV_any k r
theorem valV_map (k j : κ) (y : V) : ∀ kvs : List (κ × V), valV (kvs.map fun kv => if kv.1 = k then (kv.1, y) else kv) j = (valV kvs j).map fun x => if j = k then y else x
  | [] => rfl
  | p :: r => by
    have ih := valV_map k j y r
    rw [List.map_cons]
    by_cases h : p.1 = k
    · rw [if_pos h]
      by_cases e : p.1 = j
      · rw [valV_pos (p := (p.1, y)) e, valV_pos e, Option.map_some, if_pos (e.symm.trans h)]
      · rw [valV_neg (p := (p.1, y)) e, valV_neg e, ih]
    · rw [if_neg h]
      by_cases e : p.1 = j
      · rw [valV_pos (p := p) e, valV_pos e, Option.map_some, if_neg (fun z => h (e.trans z))]
      · rw [valV_neg (p := p) e, valV_neg e, ih]
theorem valV_snoc (k j : κ) (y : V) : ∀ kvs : List (κ × V), valV kvs k = none → valV (kvs ++ [(k, y)]) j = if j = k then some y else valV kvs j
  | [], _ => by
    by_cases e : k = j
    · rw [if_pos e.symm]; exact valV_pos (p := (k, y)) e
    · rw [if_neg (fun z => e z.symm)]; exact valV_neg (p := (k, y)) e
  | p :: r, hn => by
    rw [List.cons_append]
    have hk : ¬ p.1 = k := fun z => by rw [valV_pos z] at hn; cases hn
    rw [valV_neg hk] at hn
    have ih := valV_snoc k j y r hn
    by_cases e : p.1 = j
    · rw [valV_pos e, valV_pos e, if_neg (fun z => hk (e.trans z))]
    · rw [valV_neg e, valV_neg e, ih]
theorem valV_put (kvs : List (κ × V)) (k j : κ) (y : V) : valV (putK kvs k y) j = if j = k then some y else valV kvs j := by
  unfold putK
  by_cases a : (kvs.any fun kv => decide (kv.1 = k)) = true
  · rw [if_pos a, valV_map]
    rw [valV_any] at a
    by_cases e : j = k
    · obtain ⟨x, hx⟩ := Option.isSome_iff_exists.mp a
      rw [if_pos e, e, hx, Option.map_some, if_pos rfl]
    · rw [if_neg e]
      cases valV kvs j with
      | none => rfl
      | some x => rw [Option.map_some, if_neg e]
  · rw [if_neg a]
    refine valV_snoc k j y kvs ?_
    rw [valV_any] at a
    cases q : valV kvs k with
    | none => rfl
    | some x => rw [q] at a; exact (a rfl).elim
theorem length_putK (kvs : List (κ × V)) (k : κ) (v : V) : (putK kvs k v).length ≤ kvs.length + 1 := by
  unfold putK
  split
  · rw [List.length_map]; omega
  · rw [List.length_append, List.length_cons, List.length_nil]; omega
theorem RelO.isSome_eq {o : Option V} {u : Option Value} (r : RelO o u) : o.isSome = u.isSome := by
  cases o with
  | none => cases u with
    | none => rfl
    | some _ => exact (show False from r).elim
  | some _ => cases u with
    | none => exact (show False from r).elim
    | some _ => rfl
theorem RelO.getD {o : Option V} {u : Option Value} {d : V} {d' : Value} (r : RelO o u) (rd : RelV d d') : RelV (o.getD d) (u.getD d') := by
  cases o with
  | none => cases u with
    | none => exact rd
    | some _ => exact (show False from r).elim
  | some _ => cases u with
    | none => exact (show False from r).elim
    | some _ => exact r
theorem KV.val {kvs : List (κ × V)} {vs : List (κ × Value)} (r : KV kvs vs) (k : κ) : RelO (valV kvs k) (valueAt vs k) := by
  unfold KV at r
  induction r with
  | nil => exact True.intro
  | @cons p q ps qs h t ih =>
    obtain ⟨h1, h2⟩ := h
    by_cases e : p.1 = k
    · have e' : q.1 = k := h1.symm.trans e
      have b : valueAt (q :: qs) k = some q.2 := by simp [valueAt, List.find?_cons, e']
      rw [valV_pos e, b]; exact h2
    · have e' : ¬ q.1 = k := fun z => e (h1.trans z)
      have b : valueAt (q :: qs) k = valueAt qs k := by simp [valueAt, List.find?_cons, e']
      rw [valV_neg e, b]; exact ih
theorem KV.any {kvs : List (κ × V)} {vs : List (κ × Value)} (r : KV kvs vs) (k : κ) : (kvs.any fun kv => decide (kv.1 = k)) = vs.any fun kv => decide (kv.1 = k) := by
  unfold KV at r
  induction r with
  | nil => rfl
  | cons h t ih => rw [List.any_cons, List.any_cons, ih, h.1]
theorem KV.repl {kvs : List (κ × V)} {vs : List (κ × Value)} (r : KV kvs vs) (k : κ) {y : V} {u : Value} (ry : RelV y u) :
    KV (kvs.map fun kv => if kv.1 = k then (kv.1, y) else kv) (vs.map fun kv => if kv.1 = k then (kv.1, u) else kv) := by
  unfold KV at r ⊢
  induction r with
  | nil => exact .nil
  | @cons p q ps qs h t ih =>
    rw [List.map_cons, List.map_cons]
    refine .cons ?_ ih
    obtain ⟨h1, h2⟩ := h
    by_cases e : p.1 = k
    · rw [if_pos e, if_pos (h1.symm.trans e)]; exact ⟨h1, ry⟩
    · rw [if_neg e, if_neg (fun z => e (h1.trans z))]; exact ⟨h1, h2⟩
theorem KV.put {kvs : List (κ × V)} {vs : List (κ × Value)} (r : KV kvs vs) (k : κ) {y : V} {u : Value} (ry : RelV y u) : KV (putK kvs k y) (stored vs k u) := by
  unfold putK stored
  rw [r.any k]
  by_cases e : (vs.any fun kv => decide (kv.1 = k)) = true
  · rw [if_pos e, if_pos e]; exact r.repl k ry
  · rw [if_neg e, if_neg e]; exact Paired.snoc r ⟨rfl, ry⟩
theorem KV.drop {kvs : List (κ × V)} {vs : List (κ × Value)} (r : KV kvs vs) (k : κ) : KV (dropK kvs k) (without vs k) := by
  unfold KV at r ⊢
  unfold dropK without
  induction r with
  | nil => exact .nil
  | @cons p q ps qs h t ih =>
    obtain ⟨h1, h2⟩ := h
    rw [List.filter_cons, List.filter_cons]
    by_cases e : p.1 = k
    · have a : ¬ decide (p.1 ≠ k) = true := by simp [e]
      have b : ¬ decide (q.1 ≠ k) = true := by simp [h1.symm.trans e]
      rw [if_neg a, if_neg b]; exact ih
    · have e' : ¬ q.1 = k := fun z => e (h1.trans z)
      have a : decide (p.1 ≠ k) = true := by simp [e]
      have b : decide (q.1 ≠ k) = true := by simp [e']
      rw [if_pos a, if_pos b]; exact .cons ⟨h1, h2⟩ ih
theorem KV.length {kvs : List (κ × V)} {vs : List (κ × Value)} (r : KV kvs vs) : kvs.length = vs.length := Paired.length r
theorem dropK_le (kvs : List (κ × V)) (k : κ) : (dropK kvs k).length ≤ kvs.length := List.length_filter_le _ _
end
theorem kV_is {P : Program} {w : World} {k : Key} {u : Value} (r : RelV (kV k) u) : (mixKind P w).is k u = true := by
  cases k with
  | inl i => obtain ⟨t, e⟩ := (show ∃ t, u = Value.int i t from r); subst e; exact mixKind_int P w i t
  | inr x => obtain ⟨t, e⟩ := (show ∃ t, u = Value.str x t from r); subst e; exact mixKind_str P w x t
theorem items_are {P : Program} {w : World} : ∀ {ks : List Key} {us : List Value}, Vals (ks.map kV) us → ItemsAre (mixKind P w) ks us
  | [], _, r => by rw [List.map_nil] at r; cases r; exact .nil
  | k :: ks, _, r => by
    rw [List.map_cons] at r
    cases r with
    | cons h t => exact .cons (kV_is h) (items_are t)
abbrev KT (H : Hp) : List (List Key × V) → List (List Key × Addr × Value) → Prop := Paired fun p q => p.1 = q.1 ∧ H q.2.1 = some (.tup (p.1.map kV)) ∧ RelV p.2 q.2.2
theorem KT.val {H : Hp} {kvs : List (List Key × V)} {xs : List (List Key × Addr × Value)} (r : KT H kvs xs) (k : List Key) : RelO (valV kvs k) ((atKey xs k).map (·.2)) := by
  induction r with
  | nil => exact True.intro
  | @cons p q ps qs h t ih =>
    obtain ⟨h1, _, h2⟩ := h
    by_cases e : p.1 = k
    · have e' : q.1 = k := h1.symm.trans e
      have b : atKey (q :: qs) k = some q.2 := by simp [atKey, List.find?_cons, e']
      rw [valV_pos e, b]; exact h2
    · have e' : ¬ q.1 = k := fun z => e (h1.trans z)
      have b : atKey (q :: qs) k = atKey qs k := by simp [atKey, List.find?_cons, e']
      rw [valV_neg e, b]; exact ih
theorem KT.repl {H : Hp} {kvs : List (List Key × V)} {xs : List (List Key × Addr × Value)} (r : KT H kvs xs) (k : List Key) {y : V} {u : Value} (ry : RelV y u) :
    KT H (kvs.map fun kv => if kv.1 = k then (kv.1, y) else kv) (xs.map (putAt k u)) := by
  induction r with
  | nil => exact .nil
  | @cons p q ps qs h t ih =>
    rw [List.map_cons, List.map_cons]
    refine .cons ?_ ih
    obtain ⟨h1, h2, h3⟩ := h
    unfold putAt
    by_cases e : p.1 = k
    · rw [if_pos e, if_pos (h1.symm.trans e)]; exact ⟨h1, h2, ry⟩
    · rw [if_neg e, if_neg (fun z => e (h1.trans z))]; exact ⟨h1, h2, h3⟩
theorem KT.put {H : Hp} {kvs : List (List Key × V)} {xs : List (List Key × Addr × Value)} (r : KT H kvs xs) (k : List Key) {b : Addr} {y : V} {u : Value} (hb : H b = some (.tup (k.map kV))) (ry : RelV y u) :
    KT H (putK kvs k y) (storedH xs k b u) := by
  have e : (kvs.any fun kv => decide (kv.1 = k)) = (atKey xs k).isSome := by
    rw [valV_any, (r.val k).isSome_eq, Option.isSome_map]
  unfold putK storedH
  rw [e]
  by_cases q : (atKey xs k).isSome = true
  · rw [if_pos q, if_pos q]; exact r.repl k ry
  · rw [if_neg q, if_neg q]; exact Paired.snoc r ⟨rfl, hb, ry⟩
theorem KT.keeps {H H' : Hp} {kvs : List (List Key × V)} {xs : List (List Key × Addr × Value)} (r : KT H kvs xs) (ht : ∀ b ys, H b = some (.tup ys) → H' b = some (.tup ys)) : KT H' kvs xs :=
  Paired.mapP r fun _ _ z => ⟨z.1, ht _ _ z.2.1, z.2.2⟩
section
variable {P : Program} {w : World} {H : Hp} {h : Heap} {a : Addr}
theorem rd_of {u : HO} (ok : HOk P w H h) (e : Rd H a u) : ObjOk P w H h a u := e.ok ok
theorem dk_rd {kvs : List (Key × V)} (ok : HOk P w H h) (e : Rd H a (.dK kvs)) : kvs.length ≤ sizeLine ∧ (a == sysModules) = false ∧ ∃ vs, KV kvs vs ∧ h.DictOf (mixKind P w) a vs :=
  show ObjOk P w H h a (.dK kvs) from rd_of ok e
theorem dk_of {kvs : List (Key × V)} (ok : HOk P w H h) (e : H a = some (.dK kvs)) : kvs.length ≤ sizeLine ∧ (a == sysModules) = false ∧ ∃ vs, KV kvs vs ∧ h.DictOf (mixKind P w) a vs := dk_rd ok (.inl e)
theorem key_of {ks : List Key} (ok : HOk P w H h) (e : H a = some (.tup (ks.map kV))) : (tupleKind (mixKind P w)).is h ks a := by
  obtain ⟨_, its, r, o, h1, h2, n, h3⟩ := (show ObjOk P w H h a (.tup (ks.map kV)) from ok a _ e)
  exact ⟨o, its.toArray, n, h1, h2, h3, by simpa using items_are r⟩
theorem dt_rd {kvs : List (List Key × V)} (ok : HOk P w H h) (e : Rd H a (.dT kvs)) : kvs.length ≤ sizeLine ∧ (a == sysModules) = false ∧
    ∃ xs, KT H kvs xs ∧ h.DictOfH (tupleKind (mixKind P w)) a xs := by
  obtain ⟨z, y, xs, r, o, es, ep, h1, h2, h3, h4, h5⟩ := (show ObjOk P w H h a (.dT kvs) from rd_of ok e)
  refine ⟨z, y, xs, r, o, es, ep, h1, h2, h3, h4, fun x hx => ?_, h5⟩
  have all : ∀ {l : List (List Key × V)} {m : List (List Key × Addr × Value)}, KT H l m → ∀ x ∈ m, (tupleKind (mixKind P w)).is h x.1 x.2.1 := by
    intro l m q
    induction q with
    | nil => intro x hx; exact nomatch hx
    | @cons p q ps qs hq t ih =>
      intro x hx
      rcases List.mem_cons.mp hx with e | hx
      · subst e
        exact key_of ok (by rw [← hq.1]; exact hq.2.1)
      · exact ih x hx
  exact all r x hx
theorem dt_of {kvs : List (List Key × V)} (ok : HOk P w H h) (e : H a = some (.dT kvs)) : kvs.length ≤ sizeLine ∧ (a == sysModules) = false ∧
    ∃ xs, KT H kvs xs ∧ h.DictOfH (tupleKind (mixKind P w)) a xs := dt_rd ok (.inl e)
end
def DGet (H : Hp) (a : Addr) (y : V) (r : Option V) : Prop :=
  (∃ kvs k, Rd H a (.dK kvs) ∧ y = kV k ∧ r = valV kvs k) ∨ ∃ kvs k b, Rd H a (.dT kvs) ∧ y = .ref b ∧ H b = some (.tup (k.map kV)) ∧ r = valV kvs k
def DPut (H : Hp) (a : Addr) (y v : V) (H' : Hp) : Prop :=
  (∃ kvs k, H a = some (.dK kvs) ∧ y = kV k ∧ kvs.length < sizeLine ∧ H' = upd H a (.dK (putK kvs k v))) ∨
  ∃ kvs k b, H a = some (.dT kvs) ∧ y = .ref b ∧ H b = some (.tup (k.map kV)) ∧ kvs.length < sizeLine ∧ H' = upd H a (.dT (putK kvs k v))
theorem DGet.k {H : Hp} {a : Addr} {kvs : List (Key × V)} {k : Key} (e : H a = some (.dK kvs)) : DGet H a (kV k) (valV kvs k) := .inl ⟨kvs, k, .inl e, rfl, rfl⟩
theorem DPut.k {H : Hp} {a : Addr} {kvs : List (Key × V)} {k : Key} {v : V} (e : H a = some (.dK kvs)) (hl : kvs.length < sizeLine) : DPut H a (kV k) v (upd H a (.dK (putK kvs k v))) := .inl ⟨kvs, k, e, rfl, hl, rfl⟩
section
variable {X : Cx} {pins : List (Addr × Obj)} {σ : St} {H : Hp} {s : Shared} {a : Addr} {y v : V} {u r : Value} {o : Option V} {A : Around} {E : Value → Shared → Prop}
theorem Inv.big (I : Inv X pins σ H s) : sysModules < s.heap.objs.size := by
  have h : mainGlobals < s.heap.objs.size := (I.mod.glob.keeps I.bk).lt
  exact Nat.lt_trans (by decide) h
theorem d_getItem {Q : Value → Shared → Prop} (hu : A.units + 1 < cLine) (I : Inv X pins σ H s) (g : DGet H a y (some v)) (ry : RelV y u) (h : ∀ w' s', Inv X pins σ H s' → RelV v w' → Q w' s') :
    wpAny (model X.prog X.w) A (getItem (.ref a) u) Q E s := by
  rcases g with ⟨kvs, k, e, ey, l⟩ | ⟨kvs, k, b, e, ey, eb, l⟩
  · subst ey
    obtain ⟨z, hd, vs, rel, dd⟩ := dk_rd I.hok e
    obtain ⟨w', hw, rw'⟩ := RelO.some_of (v := v) (o := valueAt vs k) (by rw [l]; exact rel.val k)
    exact wpAny_getItem_of (kV_is ry) dd.mapOf hw (h w' _ (I.tok _) rw')
  · subst ey
    cases (show u = Value.ref b from ry)
    obtain ⟨z, hd, xs, rel, dd⟩ := dt_rd I.hok e
    obtain ⟨w', hw, rw'⟩ := RelO.some_of (v := v) (o := (atKey xs k).map (·.2)) (by rw [l]; exact rel.val k)
    obtain ⟨p, hp, hp2⟩ := Option.map_eq_some_iff.mp hw
    refine wpAny_getItem_heap (tupleKind_room_in1 hu) (key_of I.hok eb) dd hp ?_
    rw [hp2]
    exact h w' _ (I.tok _) rw'
theorem d_notIn {Q : Value → Shared → Prop} (hu : A.units + 1 < cLine) (I : Inv X pins σ H s) (g : DGet H a y o) (ry : RelV y u) (h : ∀ s', Inv X pins σ H s' → Q (.bool (!o.isSome)) s') :
    wpAny (model X.prog X.w) A (compareOp .NotIn u (.ref a)) Q E s := by
  rcases g with ⟨kvs, k, e, ey, l⟩ | ⟨kvs, k, b, e, ey, eb, l⟩
  · subst ey
    obtain ⟨z, hd, vs, rel, dd⟩ := dk_rd I.hok e
    refine wpAny_notIn_of (kV_is ry) hd dd.mapOf ?_
    rw [← (rel.val k).isSome_eq, ← l]
    exact h _ (I.tok _)
  · subst ey
    cases (show u = Value.ref b from ry)
    obtain ⟨z, hd, xs, rel, dd⟩ := dt_rd I.hok e
    refine wpAny_notIn_heap (tupleKind_room_in1 hu) (key_of I.hok eb) hd dd ?_
    have q := (rel.val k).isSome_eq
    rw [Option.isSome_map] at q
    rw [← q, ← l]
    exact h _ (I.tok _)
theorem d_write {h' : Heap} {t' : Nat} {ob : HO} (I : Inv X pins σ H s) (mu : Mut (H a)) (hs : Heap.SameBut a s.heap h') (he : ∃ q, h'.get? a = some q) (new : ObjOk X.prog X.w (upd H a ob) h' a ob) :
    Inv X pins σ (upd H a ob) { s with heap := h', toks := t' } :=
  I.write (x := a) (e := a) mu (.inl rfl) (fun b q hb z => (hs.2 b hb).trans z) he new
theorem dk_new {P : Program} {w : World} {H' : Hp} {h' : Heap} {kvs : List (Key × V)} {vs : List (Key × Value)} (z : kvs.length ≤ sizeLine) (hd : (a == sysModules) = false) (rel : KV kvs vs) (dd : h'.DictOf (mixKind P w) a vs) :
    ObjOk P w H' h' a (.dK kvs) := ⟨z, hd, vs, rel, dd⟩
theorem d_setItem {H' : Hp} {Q : Unit → Shared → Prop} (hu : A.units + 1 < cLine) (I : Inv X pins σ H s) (g : DPut H a y v H') (ry : RelV y u) (rv : RelV v r) (h : ∀ s', Inv X pins σ H' s' → Q () s') :
    wpAny (model X.prog X.w) A (setItem (.ref a) u r) Q E s := by
  rcases g with ⟨kvs, k, e, ey, l, eH⟩ | ⟨kvs, k, b, e, ey, eb, l, eH⟩
  · subst ey eH
    obtain ⟨z, hd, vs, rel, dd⟩ := dk_of I.hok e
    have hz : vs.length ≤ sizeLine := by rw [← rel.length]; exact z
    have hl : (putK kvs k v).length ≤ sizeLine := by have := length_putK kvs k v; omega
    refine wpAny_setItem_pairs (hsz := hz) (kV_is ry) dd fun h' dd' hs => h _ ?_
    have he : ∃ q, h'.get? a = some q := let ⟨q, _, _, hq, _⟩ := dd'; ⟨q, hq⟩
    exact d_write I (by rw [e]; exact True.intro) hs he (dk_new hl hd (rel.put k rv) dd')
  · subst ey eH
    cases (show u = Value.ref b from ry)
    obtain ⟨z, hd, xs, rel, dd⟩ := dt_of I.hok e
    have hz : xs.length ≤ sizeLine := by rw [← Paired.length rel]; exact z
    have hl : (putK kvs k v).length ≤ sizeLine := by have := length_putK kvs k v; omega
    refine wpAny_setItem_heap (hsz := hz) (tupleKind_room_in1 hu) (key_of I.hok eb) dd fun h' dd' hs => h _ ?_
    obtain ⟨q, es, ep, hq, h2, h3, h4, _, h5⟩ := dd'
    refine d_write I (by rw [e]; exact True.intro) hs ⟨q, hq⟩ ⟨hl, hd, _, (rel.put k eb rv).keeps fun c ys ec => ?_, q, es, ep, hq, h2, h3, h4, h5⟩
    rw [upd_ne (ne_of ec e (fun z => nomatch z))]
    exact ec
end
section
variable {X : Cx} {pins : List (Addr × Obj)} {σ : St} {H : Hp} {s : Shared} {a : Addr} {kvs : List (Key × V)} {k : Key} {u : Value} {A : Around} {E : Value → Shared → Prop}
theorem d_pop {v : V} {more : List Value} {Q : Value → Shared → Prop} (I : Inv X pins σ H s) (e : H a = some (.dK kvs)) (ry : RelV (kV k) u) (l : valV kvs k = some v) (hm : more = [] ∨ ∃ x, more = [x])
    (h : ∀ w' s', Inv X pins σ (upd H a (.dK (dropK kvs k))) s' → RelV v w' → Q w' s') : wpAny (model X.prog X.w) A (call (.builtin "dict.pop") (.ref a :: u :: more)) Q E s := by
  obtain ⟨z, hd, vs, rel, dd⟩ := dk_of I.hok e
  obtain ⟨w', hw, rw'⟩ := RelO.some_of (v := v) (o := valueAt vs k) (by rw [← l]; exact rel.val k)
  have hp : (keyPart u).isSome = true := by
    cases k with
    | inl i => obtain ⟨t, q⟩ := (show ∃ t, u = Value.int i t from ry); subst q; rfl
    | inr x => obtain ⟨t, q⟩ := (show ∃ t, u = Value.str x t from ry); subst q; rfl
  have ha : argsOk "dict.pop" ⟨.ref a :: u :: more, []⟩ := by
    rcases hm with q | ⟨x, q⟩
    · subst q; exact PySem.F.args_dict_pop_2 _ _
    · subst q; exact PySem.F.args_dict_pop_3 _ _ _
  refine call_meetsIn PySem.F.slot_dict_pop dd.typeIs PySem.F.entry_dict_pop ha (meets_dict_pop_there (mixKind X.prog X.w) a (kV_is ry) more hm hp)
    ⟨vs, w', dd, by rw [← rel.length]; exact z, hw, fun h' dd' hs => h w' _ ?_ rw'⟩
  have he : ∃ q, h'.get? a = some q := let ⟨q, _, _, hq, _⟩ := dd'; ⟨q, hq⟩
  exact d_write I (by rw [e]; exact True.intro) hs he (dk_new (Nat.le_trans (dropK_le kvs k) z) hd (rel.drop k) dd')
end
def NoSl (i : Expr) : Prop := ∀ ov iv, subscripted i false ov iv = operate [ov, iv] (getItem ov iv)
theorem subD_of {prog : Program} {w : World} {A : Around} {E : Value → Shared → Prop} {s : Shared} {env : Env} {value slice : Expr} {pos : Pos} {T id : String} {Q : Value → Shared → Prop}
    (hl : typeLookup (.type T) "__getitem__" = pure (some (.builtin id))) (hs : NoSl slice)
    (h : wpAny (model prog w) A (eval value env) (fun o s₁ => wpAny (model prog w) A (eval slice env) (fun i s₂ => s₂.TypeIs o T ∧ wpAny (model prog w) A (getItem o i) Q E s₂) E s₁) E s) :
    wpAny (model prog w) A (eval (.Subscript value slice pos) env) Q E s := by
  refine Subscript_ (wpAny_mono h (fun o s₁ h₁ => wpAny_mono h₁ (fun i s₂ h₂ => ?_) fun _ _ x => x) fun _ _ x => x)
  obtain ⟨hT, h₂⟩ := h₂
  unfold subscriptTail
  refine wpAny_bind ?_
  rw [getitemInPython_of_ne hT.not_modules]
  refine wpAny_bind (wpAny_specialOf hT hl ?_)
  have fin : wpAny (model prog w) A (subscripted slice false o i) (fun r s₃ => wpAny (model prog w) A (letTemporaryGo value o r >>= fun _ => pure r) Q E s₃) E s₂ := by
    rw [hs o i]
    exact wpAny_operating (wpAny_mono h₂ (fun r s₃ h₃ => wpAny_bind (wpAny_letTemporaryGo (wpAny_pure h₃))) fun _ _ x => x)
  first
    | exact wpAny_pure (wpAny_bind fin)
    | exact wpAny_bind (wpAny_pure (wpAny_bind fin))
    | exact wpAny_bind fin
theorem dict_typeIs {X : Cx} {pins : List (Addr × Obj)} {σ : St} {H : Hp} {s : Shared} {a : Addr} {y : V} {o : Option V} (I : Inv X pins σ H s) (g : DGet H a y o) : s.TypeIs (.ref a) "dict" := by
  rcases g with ⟨kvs, k, e, _, _⟩ | ⟨kvs, k, b, e, _, _, _⟩
  · obtain ⟨_, _, vs, _, dd⟩ := dk_rd I.hok e
    exact dd.typeIs
  · obtain ⟨_, _, xs, _, dd⟩ := dt_rd I.hok e
    exact dd.typeIs
def tDGet (td ty : TE) : TE := fun σ H Q => td σ H fun x H1 => ty σ H1 fun y H2 => ∃ a v, x = .ref a ∧ DGet H2 a y (some v) ∧ Q v H2
def sDPut (td ty tv : TE) : TS := fun D σ H => tv σ H fun v H1 => td σ H1 fun x H2 => ty σ H2 fun y H3 => ∃ a H4, x = .ref a ∧ DPut H3 a y v H4 ∧ D.nx σ H4
section
variable {X : Cx} {o i e value : Expr} {pos pos' tpos : Pos} {td ty tv : TE}
theorem pe_dget (hu : X.A.units + 1 < cLine) (ho : PE X o td) (hi : PE X i ty) (hs : NoSl i) : PE X (.Subscript o i pos) (tDGet td ty) := by
  intro pins s σ H Q I h
  refine subD_of PySem.F.slot_dict_getitem.lookup hs (thn (ho pins s σ H _ I h) fun u s1 ⟨x, H1, I1, rx, q1⟩ => thn (hi pins s1 σ H1 _ I1 q1) fun iv s2 ⟨y, H2, I2, ry, a, v, ex, g, q2⟩ => ?_)
  subst ex
  obtain rfl : u = Value.ref a := rx
  exact ⟨dict_typeIs I2 g, d_getItem hu I2 g ry fun w' s3 I3 rw' => ⟨v, H2, I3, rw', q2⟩⟩
theorem ps_dput (hu : X.A.units + 1 < cLine) (ho : PE X o td) (hi : PE X i ty) (hv : PE X value tv) (hs : swapsWith value (some (.Subscript o i pos')) pos.line X.env = pure false) :
    PS X (.Assign [.Subscript o i pos'] value pos) (sDPut td ty tv) := by
  intro pins s σ H D I h
  refine wpAny_Assign_Subscript (thn (hv pins s σ H _ I h) fun r s1 ⟨v, H1, I1, rv, q1⟩ => thn (ho pins s1 σ H1 _ I1 q1) fun u s2 ⟨x, H2, I2, rx, q2⟩ => thn (hi pins s2 σ H2 _ I2 q2) fun iv s3 ⟨y, H3, I3, ry, a, H4, ex, g, q3⟩ => ?_) hs
  subst ex
  obtain rfl : u = Value.ref a := rx
  exact d_setItem hu I3 g ry rv fun s4 I4 => ⟨σ, H4, I4, q3⟩
end
theorem dk_empty {P : Program} {w : World} {H : Hp} (h : Heap) (hb : sysModules < h.objs.size) : ObjOk P w H (h.push { cls := .type "dict", data := .dict #[] }) h.objs.size (.dK []) :=
  ⟨Nat.zero_le _, beq_eq_false_iff_ne.mpr (Ne.symm (Nat.ne_of_lt hb)), [], .nil, Heap.DictOf.new h⟩
def tDNewK : TE := fun _ H Q => ∀ p, H p = none → Q (.ref p) (upd H p (.dK []))
section
variable {X : Cx} {pos : Pos}
theorem pe_dnewK : PE X (.Dict [] [] pos) tDNewK := fun pins s σ H Q I h =>
  wpAny_Dict_empty ⟨.ref s.heap.objs.size, _, I.laid (a := s.heap.objs.size) (o := .dK []) (t' := s.toks) (fun _ _ q => Heap.get?_push_of_some _ q) (Nat.le_refl _) (dk_empty s.heap I.big), rfl, h _ (I.hok.fresh (Nat.le_refl _))⟩
end
structure M1 (X : Cx) (o : Expr) (m : Str) (apos : Pos) (e : Expr) (cpos : Pos) : Prop where
  base : attributeBase o m X.env (eval o X.env) = eval o X.env
  few : ((backTo cpos (starEach [e] X.env)).all (fun x => !x.1) && (backToKw cpos (keywordEach [] X.env)).all (fun x => x.1.isSome)
    && decide (([e] : List Expr).length + ([] : List Keyword).length + (if ([] : List Keyword).isEmpty then 0 else 1) < 30)) = true
  line : (apos.endLine == cpos.line) = true
  trees : backTo cpos (starEach [e] X.env) = [(false, eval e X.env)]
def IsD (H : Hp) (a : Addr) : Prop := (∃ kvs, Rd H a (.dK kvs)) ∨ ∃ kvs, Rd H a (.dT kvs)
theorem isD_at {X : Cx} {pins : List (Addr × Obj)} {σ : St} {H : Hp} {s : Shared} {a : Addr} (I : Inv X pins σ H s) (d : IsD H a) :
    s.TypeIs (.ref a) "dict" ∧ (∀ b, Value.ref a = .ref b → ∃ ob, s.heap.get? b = some ob ∧ ob.dict = none) ∧ (a == sysModules) = false := by
  rcases d with ⟨kvs, e⟩ | ⟨kvs, e⟩
  · obtain ⟨_, hd, vs, _, dd⟩ := dk_rd I.hok e
    refine ⟨dd.typeIs, fun b q => ?_, hd⟩
    cases q
    obtain ⟨ob, _, _, h1, h2, _⟩ := dd
    exact ⟨ob, h1, h2.2.1⟩
  · obtain ⟨_, hd, xs, _, dd⟩ := dt_rd I.hok e
    refine ⟨dd.typeIs, fun b q => ?_, hd⟩
    cases q
    obtain ⟨ob, _, _, h1, h2, _⟩ := dd
    exact ⟨ob, h1, h2.2.1⟩
section
variable {X : Cx} {pins : List (Addr × Obj)} {σ : St} {H : Hp} {s : Shared} {a : Addr} {y d : V} {u r : Value} {o : Option V} {A : Around} {E : Value → Shared → Prop}
theorem d_get1 {Q : Value → Shared → Prop} (hu : A.units + 1 < cLine) (I : Inv X pins σ H s) (g : DGet H a y o) (ry : RelV y u) (h : ∀ w' s', Inv X pins σ H s' → RelV (o.getD .non) w' → Q w' s') :
    wpAny (model X.prog X.w) A (call (.builtin "dict.get") [.ref a, u]) Q E s := by
  rcases g with ⟨kvs, k, e, ey, l⟩ | ⟨kvs, k, b, e, ey, eb, l⟩
  · subst ey
    obtain ⟨z, hd, vs, rel, dd⟩ := dk_rd I.hok e
    refine call_meetsIn PySem.F.slot_dict_get dd.typeIs PySem.F.entry_dict_get (PySem.F.args_dict_get_2 _ _) (meets_dict_get (mixKind X.prog X.w) a (kV_is ry) hd) ⟨_, dd.mapOf, h _ _ (I.tok _) ?_⟩
    rw [l]
    exact (rel.val k).getD rfl
  · subst ey
    cases (show u = Value.ref b from ry)
    obtain ⟨z, hd, xs, rel, dd⟩ := dt_rd I.hok e
    refine call_meetsIn PySem.F.slot_dict_get dd.typeIs PySem.F.entry_dict_get (PySem.F.args_dict_get_2 _ _) (meetsH_dict_get (tupleKind (mixKind X.prog X.w)) a b hd) ⟨tupleKind_room_in1 hu, k, xs, key_of I.hok eb, dd, h _ _ (I.tok _) ?_⟩
    rw [l]
    exact (rel.val k).getD rfl
end
def tDGet1 (td ty : TE) : TE := fun σ H Q => td σ H fun x H1 => ∃ a, x = .ref a ∧ IsD H1 a ∧ ty σ H1 fun y H2 => ∃ o, DGet H2 a y o ∧ Q (o.getD .non) H2
def tDPop1 (td ty : TE) : TE := fun σ H Q => td σ H fun x H1 => ∃ a, x = .ref a ∧ IsD H1 a ∧ ty σ H1 fun y H2 => ∃ kvs k v, H2 a = some (.dK kvs) ∧ y = kV k ∧ valV kvs k = some v ∧ Q v (upd H2 a (.dK (dropK kvs k)))
section
variable {X : Cx} {o e f : Expr} {apos cpos : Pos} {td ty tx : TE}
theorem pe_dget1 (hu : X.A.units + 1 < cLine) (ho : PE X o td) (he : PE X e ty) (m : M1 X o "get" apos e cpos) : PE X (.Call (.Attribute o "get" apos) [e] [] cpos) (tDGet1 td ty) := by
  intro pins s σ H Q I h
  refine wpAny_Call_method m.base m.few m.line PySem.F.plainAttrs_dict PySem.F.slot_dict_get PySem.F.type_dict_get (thn (ho pins s σ H _ I h) fun u s1 ⟨x, H1, I1, rx, a, ex, d, q1⟩ => ?_)
  subst ex
  obtain rfl : u = Value.ref a := rx
  obtain ⟨t1, t2, _⟩ := isD_at I1 d
  refine ⟨t1, t2, ?_⟩
  rw [m.trees]
  refine Calls.callWith_builtin rfl (Calls.evalArgs_plain (Calls.spliced_cons (thn (he pins s1 σ H1 _ I1 q1) fun iv s2 ⟨y, H2, I2, ry, ov, g, q2⟩ => Calls.spliced_nil ?_)))
  exact d_get1 hu I2 g ry fun w' s3 I3 rw' => ⟨_, H2, I3, rw', q2⟩
theorem pe_dpop1 (ho : PE X o td) (he : PE X e ty) (m : M1 X o "pop" apos e cpos) : PE X (.Call (.Attribute o "pop" apos) [e] [] cpos) (tDPop1 td ty) := by
  intro pins s σ H Q I h
  refine wpAny_Call_method m.base m.few m.line PySem.F.plainAttrs_dict PySem.F.slot_dict_pop PySem.F.type_dict_pop (thn (ho pins s σ H _ I h) fun u s1 ⟨x, H1, I1, rx, a, ex, d, q1⟩ => ?_)
  subst ex
  obtain rfl : u = Value.ref a := rx
  obtain ⟨t1, t2, _⟩ := isD_at I1 d
  refine ⟨t1, t2, ?_⟩
  rw [m.trees]
  refine Calls.callWith_builtin rfl (Calls.evalArgs_plain (Calls.spliced_cons (thn (he pins s1 σ H1 _ I1 q1) fun iv s2 ⟨y, H2, I2, ry, kvs, k, v, ea, ey, l, q2⟩ => Calls.spliced_nil ?_)))
  subst ey
  exact d_pop I2 ea ry l (.inl rfl) fun w' s3 I3 rw' => ⟨v, _, I3, rw', q2⟩
end
section
variable {X : Cx} {pins : List (Addr × Obj)} {σ : St} {H : Hp} {s : Shared} {a : Addr} {kvs : List (Key × V)} {A : Around} {E : Value → Shared → Prop}
end
section
variable {X : Cx} {pins : List (Addr × Obj)} {σ : St} {H : Hp} {s : Shared} {a : Addr} {y : V} {u : Value} {A : Around} {E : Value → Shared → Prop}
end
end L2
namespace L2
open PySem PySem.Spec PyProof.Rows
section
variable {X : Cx}
end
section
variable {κ : Type} [DecidableEq κ]
theorem valV_not {kvs : List (κ × V)} {k : κ} (h : valV kvs k = none) : ¬ k ∈ kvs.map (·.1) := by
  intro m
  obtain ⟨p, hp, e⟩ := List.mem_map.mp m
  have q : (kvs.any fun kv => decide (kv.1 = k)) = true := List.any_eq_true.mpr ⟨p, hp, decide_eq_true e⟩
  rw [valV_any, h] at q
  exact absurd q (by simp)
theorem valV_in {kvs : List (κ × V)} {k : κ} {v : V} (h : valV kvs k = some v) : k ∈ kvs.map (·.1) := by
  have q : (kvs.any fun kv => decide (kv.1 = k)) = true := by
    rw [valV_any, h]
    all_goals rfl
  obtain ⟨p, hp, e⟩ := List.any_eq_true.mp q
  exact List.mem_map.mpr ⟨p, hp, of_decide_eq_true e⟩
theorem dropK_pos {p : κ × V} {r : List (κ × V)} {k : κ} (e : p.1 = k) : dropK (p :: r) k = dropK r k := by
  unfold dropK
  rw [List.filter_cons, if_neg (by simp [e])]
theorem dropK_neg {p : κ × V} {r : List (κ × V)} {k : κ} (e : ¬ p.1 = k) : dropK (p :: r) k = p :: dropK r k := by
  unfold dropK
  rw [List.filter_cons, if_pos (by simp [e])]
end
end L2

set_option maxHeartbeats 4000000
namespace L2
open PySem
def FlyT (h : Heap) (a : Addr) (cls : Value) (dct : Option Addr) (hd : Value) : Prop :=
  ∃ oe vs, h.get? a = some oe ∧ oe.cls = cls ∧ oe.dict = dct ∧ oe.data = .fields vs ∧ vs[1]? = some hd ∧
    (hd = .none ∨ ∃ T oT ts, hd = .ref T ∧ T ≠ a ∧ h.get? T = some oT ∧ oT.data = .fields ts ∧ ts[3]? = some .none)
theorem dict_mapF (o : Obj) (f : Array Value → Array Value) : (o.mapFields f).dict = o.dict := by
  obtain ⟨c, d, dt, sl⟩ := o
  cases dt <;> rfl
section
variable {M : Model} {A : Around} {E : Value → Shared → Prop} {s : Shared}
theorem fly_entry {base : Heap} {env : Env} {outer : List Env} {L a : Addr} {oe : Obj} {vs : Array Value} {hd : Value} {b : Bool} {Q : Unit → Shared → Prop}
    (hfr : A.frames = some (env :: outer)) (hl : s.heap.FunFrames base (env :: outer)) (hf : env.frame = some L) (he : s.heap.get? a = some oe) (hdt : oe.data = .fields vs) (h1 : 1 < vs.size)
    (h : ∀ (h' : Heap) (T : Addr), s.heap.get? T = none → T ≠ a → (∀ b o, b ≠ a → b ∉ (env :: outer).filterMap (·.frame) → s.heap.get? b = some o → h'.get? b = some o) →
      (∀ b o, b ≠ a → s.heap.get? b = some o → ∃ sl, h'.get? b = some { o with slots := sl }) → FlyT h' a oe.cls oe.dict (.ref T) → Q () { s with heap := h' }) :
    wpAny M A (do setField (.ref a) 1 (← EntryCells.newEntry hd (← frameOf env) .none (rawInt L) .none (← entryPlaceOf L b))) (fun _ s' => wpAny M A (setFlight (.ref a) none) Q E s') E s := by
  have na : a ∉ (env :: outer).filterMap (·.frame) := fun hm => by
    obtain ⟨_, o, ho, hn⟩ := hl.mem hm
    rw [he] at ho; cases ho
    exact hn vs hdt
  refine wpAny_bind (wpAny_frameOf_fun hfr hl hf fun h₁ hs => ?_)
  refine wpAny_bind (wpAny_entryPlaceOf fun pl hpl => ?_)
  unfold EntryCells.newEntry newFields
  refine wpAny_bind (wpAny_newObj_type ?_ (hpl.sizeOk5 _ _ _ _ _))
  generalize hts : ([hd, Value.ref L, Value.none, rawInt L, Value.none] ++ (if pl.isEmpty then List.replicate 6 Value.none else pl)).toArray = ts
  have hsz : 3 < ts.size := by
    rw [← hts]
    simp only [List.size_toArray, List.length_append, List.length_cons, List.length_nil]
    omega
  have e1 : h₁.get? a = some oe := (hs.2.1 a na).trans he
  have lt1 : h₁.objs.size ≠ a := Nat.ne_of_gt (Heap.lt_size e1)
  have e2 : (h₁.push { cls := .type "traceback", dict := none, data := .fields ts }).get? a = some oe := Heap.get?_push_of_some _ e1
  refine wpAny_setField e2 hdt h1 ?_
  have d3 := Obj.data_mapFields hdt (·.setIfInBounds 1 (Value.ref h₁.objs.size))
  have e3 := Heap.get?_update_self (Obj.mapFields (·.setIfInBounds 1 (Value.ref h₁.objs.size))) e2 (Obj.isFreed_of_fields d3)
  have t3 : ((h₁.push { cls := .type "traceback", dict := none, data := .fields ts }).update a (Obj.mapFields (·.setIfInBounds 1 (Value.ref h₁.objs.size)))).get? h₁.objs.size = some { cls := .type "traceback", dict := none, data := .fields ts } := by
    rw [Heap.get?_update_other _ _ (Ne.symm lt1)]
    exact Heap.get?_push_size h₁ rfl
  unfold setFlight
  refine wpAny_bind (wpAny_field e3 d3 (x := .ref h₁.objs.size) (by simp [h1]) ?_)
  rw [if_pos (show (Value.ref h₁.objs.size != Value.none) = true by simp)]
  refine wpAny_setField t3 rfl hsz ?_
  have keep : ∀ b o, b ≠ a → h₁.get? b = some o → (((h₁.push { cls := .type "traceback", dict := none, data := .fields ts }).update a (Obj.mapFields (·.setIfInBounds 1 (Value.ref h₁.objs.size)))).update h₁.objs.size
      (Obj.mapFields (·.setIfInBounds 3 ((none : Option Addr).elim Value.none fun f => rawInt f)))).get? b = some o := fun b o nb e => by
    rw [Heap.get?_update_other _ _ (Nat.ne_of_gt (Heap.lt_size e)), Heap.get?_update_other _ _ (Ne.symm nb)]
    exact Heap.get?_push_of_some _ e
  refine h _ h₁.objs.size ?_ lt1 (fun b o nb nf e => keep b o nb ((hs.2.1 b nf).trans e)) (fun b o nb e => ?_) ?_
  · rw [hs.1]
    exact Heap.get?_none_of_le (Nat.le_refl _)
  · obtain ⟨sl, q⟩ := hs.2.2 b o e
    exact ⟨sl, keep b _ nb q⟩
  · refine ⟨_, _, ?_, Obj.cls_mapFields oe (·.setIfInBounds 1 (Value.ref h₁.objs.size)), dict_mapF oe (·.setIfInBounds 1 (Value.ref h₁.objs.size)), d3, by simp [h1], .inr ⟨h₁.objs.size, _, _, rfl, lt1,
      Heap.get?_update_self _ t3 (Obj.isFreed_of_fields (Obj.data_mapFields rfl _)), Obj.data_mapFields rfl _, by simp [hsz]⟩⟩
    rw [Heap.get?_update_other _ _ lt1]
    exact e3
theorem fly_note {base : Heap} {env : Env} {outer : List Env} {L a : Addr} {cls hd : Value} {dct : Option Addr} {Q : Unit → Shared → Prop}
    (hfr : A.frames = some (env :: outer)) (hl : s.heap.FunFrames base (env :: outer)) (hf : env.frame = some L) (hx : FlyT s.heap a cls dct hd)
    (h : ∀ (h' : Heap) (T : Addr), s.heap.get? T = none → T ≠ a → (∀ b o, b ≠ a → hd ≠ .ref b → b ∉ (env :: outer).filterMap (·.frame) → s.heap.get? b = some o → h'.get? b = some o) →
      (∀ b o, b ∈ (env :: outer).filterMap (·.frame) → s.heap.get? b = some o → ∃ sl, h'.get? b = some { o with slots := sl }) → FlyT h' a cls dct (.ref T) → Q () { s with heap := h' }) :
    wpAny M A (noteFrame (.ref a) env) (fun _ s' => wpAny M A (setFlight (.ref a) none) Q E s') E s := by
  obtain ⟨oe, vs, he, rfl, rfl, hdt, h1, hc⟩ := hx
  have fr : ∀ b o, b ∈ (env :: outer).filterMap (·.frame) → s.heap.get? b = some o → ∀ ws, o.data ≠ .fields ws := fun b o hb e => by
    obtain ⟨_, o', ho, hn⟩ := hl.mem hb
    rw [e] at ho; cases ho
    exact hn
  have na : ∀ b o, b ∈ (env :: outer).filterMap (·.frame) → s.heap.get? b = some o → b ≠ a := fun b o hb e z => by
    subst z
    rw [e] at he; cases he
    exact fr _ _ hb e vs hdt
  have z1 := (Array.getElem?_eq_some_iff.mp h1).1
  unfold noteFrame
  simp only [hf]
  refine wpAny_bind (wpAny_field he hdt h1 ?_)
  rcases hc with rfl | ⟨T, oT, ts, rfl, hTa, hT, hTd, h3⟩
  · rw [if_neg (by decide)]
    refine fly_entry hfr hl hf he hdt z1 fun h' T' n1 n2 k1 k2 fl => h h' T' n1 n2 (fun b o nb _ nf e => k1 b o nb nf e) (fun b o hb e => k2 b o (na b o hb e) e) fl
  · rw [if_pos (show (Value.ref T != Value.none) = true by simp)]
    refine wpAny_bind (wpAny_field hT hTd h3 ?_)
    rw [if_neg (show ¬ ((Value.none == rawInt L) = true) by simp [rawInt])]
    refine wpAny_bind (wpAny_setField hT hTd (Array.getElem?_eq_some_iff.mp h3).1 ?_)
    have oth : ∀ b, b ≠ T → (s.heap.update T (Obj.mapFields (·.setIfInBounds 3 Value.none))).get? b = s.heap.get? b := fun b nb => Heap.get?_update_other _ _ (Ne.symm nb)
    have fT : ∀ b o, s.heap.get? b = some o → (∀ ws, o.data ≠ .fields ws) → b ≠ T := fun b o e hn z => by
      rw [z, hT] at e; cases e
      exact hn ts hTd
    refine fly_entry (s := { s with heap := s.heap.update T (Obj.mapFields (·.setIfInBounds 3 Value.none)) }) hfr (hl.of_keeps fun b o e hn => ⟨o, (oth b (fT b o e hn)).trans e, rfl⟩) hf ((oth a (Ne.symm hTa)).trans he) hdt z1
      fun h' T' n1 n2 k1 k2 fl => h h' T' ?_ n2 (fun b o nb nT nf e => k1 b o nb nf ((oth b (fun z => nT (by rw [z]))).trans e)) (fun b o hb e => k2 b o (na b o hb e) ((oth b (fT b o e (fr b o hb e))).trans e)) fl
    cases q : s.heap.get? T' with
    | none => rfl
    | some o =>
      by_cases z : T' = T
      · subst z
        have := Heap.get?_update_self (Obj.mapFields (·.setIfInBounds 3 Value.none)) hT (Obj.isFreed_of_fields (Obj.data_mapFields hTd _))
        rw [this] at n1; cases n1
      · have n1' : (s.heap.update T (Obj.mapFields (·.setIfInBounds 3 Value.none))).get? T' = none := n1
        rw [oth T' z, q] at n1'; cases n1'
theorem fly_leave {base : Heap} {env : Env} {outer : List Env} {L a : Addr} {cls hd : Value} {dct : Option Addr} {Q : Unit → Shared → Prop}
    (hfr : A.frames = some (env :: outer)) (hl : s.heap.FunFrames base (env :: outer)) (hf : env.frame = some L) (hx : FlyT s.heap a cls dct hd)
    (h : ∀ (h' : Heap) (T : Addr), s.heap.get? T = none → T ≠ a → (∀ b o, b ≠ a → hd ≠ .ref b → b ∉ (env :: outer).filterMap (·.frame) → s.heap.get? b = some o → h'.get? b = some o) →
      (∀ b o, b ∈ (env :: outer).filterMap (·.frame) → s.heap.get? b = some o → ∃ sl, h'.get? b = some { o with slots := sl }) → FlyT h' a cls dct (.ref T) → Q () { s with heap := h' }) :
    wpAny M A (leaving env (.ref a)) Q E s := by
  unfold leaving
  exact wpAny_bind (fly_note hfr hl hf hx h)
theorem fly_rest {a T : Addr} {cls : Value} {dct : Option Addr} {Q : Unit → Shared → Prop} (hx : FlyT s.heap a cls dct (.ref T))
    (h : ∀ h', (∀ b o, b ≠ T → s.heap.get? b = some o → h'.get? b = some o) → FlyT h' a cls dct (.ref T) → Q () { s with heap := h' }) : wpAny M A (setFlight (.ref a) none) Q E s := by
  obtain ⟨oe, vs, he, rfl, rfl, hdt, h1, hc⟩ := hx
  rcases hc with z | ⟨T', oT, ts, z, hTa, hT, hTd, h3⟩
  · cases z
  · cases z
    unfold setFlight
    refine wpAny_bind (wpAny_field he hdt h1 ?_)
    rw [if_pos (show (Value.ref T != Value.none) = true by simp)]
    have z3 := (Array.getElem?_eq_some_iff.mp h3).1
    have oth : ∀ b, b ≠ T → (s.heap.update T (Obj.mapFields (·.setIfInBounds 3 ((none : Option Addr).elim Value.none fun f => rawInt f)))).get? b = s.heap.get? b := fun b nb => Heap.get?_update_other _ _ (Ne.symm nb)
    refine wpAny_setField hT hTd z3 (h _ (fun b o nb e => (oth b nb).trans e) ⟨oe, vs, (oth a (Ne.symm hTa)).trans he, rfl, rfl, hdt, h1, .inr ⟨T, _, _, rfl, hTa, Heap.get?_update_self _ hT (Obj.isFreed_of_fields (Obj.data_mapFields hTd _)), Obj.data_mapFields hTd _, ?_⟩⟩)
    simp [z3]
end
end L2

set_option maxHeartbeats 4000000
namespace L2
open PySem PySem.Spec PyProof.Rows
def Flies (h0 h : Heap) (H : Hp) (a : Addr) (cls : Value) (dct : Option Addr) : Prop :=
  ∃ hd, FlyT h a cls dct hd ∧ H a = none ∧ h0.get? a = none ∧ ∀ T, hd = .ref T → H T = none ∧ h0.get? T = none
def CXE (P : Program) (w : World) : CXT := fun outer H s E e s' => ∃ a cls dct H', e = .ref a ∧ s'.os = s.os ∧ AllBare s'.gens ∧ Un (frs outer) [] H H' s.heap s'.heap ∧ HOk P w H' s'.heap ∧ Flies s.heap s'.heap H' a cls dct ∧ E cls dct H'
theorem ObjOk.there {P : Program} {w : World} {H : Hp} {h : Heap} {a : Addr} {o : HO} (x : ObjOk P w H h a o) : ∃ ob, h.get? a = some ob := by
  cases o with
  | lst xs => obtain ⟨_, _, _, _, e⟩ := x; exact ⟨_, e⟩
  | tup xs => obtain ⟨_, _, _, ob, e, _⟩ := x; exact ⟨_, e⟩
  | dK kvs => obtain ⟨_, _, _, _, o, _, _, e, _⟩ := x; exact ⟨_, e⟩
  | dT kvs => obtain ⟨_, _, _, _, o, _, _, e, _⟩ := x; exact ⟨_, e⟩
  | set S n => obtain ⟨o, _, _, _, e, _⟩ := x; exact ⟨_, e⟩
  | ins C dx fs => obtain ⟨_, _, _, e, _⟩ := x; exact ⟨_, e⟩
  | own y => exact x
  | xd fs => obtain ⟨_, ⟨_, _, _, e, _⟩, _⟩ := x; exact ⟨_, e⟩
  | rng lo hi => obtain ⟨_, _, _, e⟩ := x; exact ⟨_, e⟩
  | frz ob u => obtain ⟨e, _⟩ := x; exact ⟨_, e⟩
  | tbl ps => exact ⟨_, (show h.get? a = some _ from x)⟩
  | met f y => exact ⟨_, (show h.get? a = some _ from x)⟩
  | ext φ => obtain ⟨_, e, _⟩ := x; exact e
theorem frs_sub {env : Env} {l : List Env} {b : Addr} (hb : b ∈ frs l) : b ∈ frs (env :: l) := by
  unfold frs at *
  rw [List.filterMap_cons]
  cases env.frame with
  | none => exact hb
  | some L => exact List.mem_cons_of_mem _ hb
section
variable {X : Cx} {pins : List (Addr × Obj)} {σ : St} {H H' : Hp} {s : Shared} {h' : Heap} {a T : Addr} {cls hd : Value} {dct : Option Addr}
theorem s0_none (I : Inv X pins σ H s) (hex : X.ex = []) (n : s.heap.get? a = none) : X.s₀.heap.get? a = none := by
  cases e : X.s₀.heap.get? a with
  | none => rfl
  | some o =>
    obtain ⟨o1, e1⟩ := I.base.there a o e (by rw [hex]; simp)
    rw [n] at e1; cases e1
theorem hok_fly (I : Inv X pins σ H s) (keep : ∀ b o, b ≠ a → hd ≠ .ref b → b ∉ frs X.stack → s.heap.get? b = some o → h'.get? b = some o) (ha : H a = none) (hT : ∀ T, hd = .ref T → H T = none) : HOk X.prog X.w H h' := fun b u e => by
  have tr : ∀ c v, H c = some v → c ≠ a ∧ hd ≠ .ref c ∧ c ∉ frs X.stack := fun c v q => ⟨ne_of_none q ha, fun z => (by rw [hT c z] at q; cases q), fun z => (by rw [I.stkFree c z] at q; cases q)⟩
  refine (I.hok b u e).stay (fun c v hc q => ?_) (fun _ q => q) fun _ _ q => q
  obtain ⟨z, hz⟩ : ∃ v, H c = some v := by
    rcases hc with rfl | hc
    · exact ⟨_, e⟩
    · exact ⟨_, hc⟩
  exact keep c v (tr c z hz).1 (tr c z hz).2.1 (tr c z hz).2.2 q
theorem h_none (I : Inv X pins σ H s) (n : s.heap.get? T = none) : H T = none := by
  cases q : H T with
  | none => rfl
  | some u =>
    obtain ⟨ob, e⟩ := (I.hok T u q).there
    rw [n] at e; cases e
theorem left_ok (I : Inv X pins σ H s) (hex : X.ex = []) (hst : X.stack = X.env :: X.outer) (ha : H a = none) (na : X.s₀.heap.get? a = none) (hT : ∀ T, hd = .ref T → H T = none ∧ X.s₀.heap.get? T = none)
    (nT : s.heap.get? T = none) (keep : ∀ b o, b ≠ a → hd ≠ .ref b → b ∉ frs X.stack → s.heap.get? b = some o → h'.get? b = some o)
    (slot : ∀ b o, b ∈ frs X.stack → s.heap.get? b = some o → ∃ sl, h'.get? b = some { o with slots := sl }) (fl : FlyT h' a cls dct (.ref T)) :
    Un (frs X.outer) [] X.H₀ H X.s₀.heap h' ∧ HOk X.prog X.w H h' ∧ Flies X.s₀.heap h' H a cls dct := by
  have s0a : ∀ b o, X.s₀.heap.get? b = some o → b ≠ a ∧ hd ≠ .ref b := fun b o e => ⟨fun z => (by rw [z, na] at e; cases e), fun z => (by rw [(hT b z).2] at e; cases e)⟩
  have s0L : ∀ b o, X.s₀.heap.get? b = some o → b ∈ frs X.stack → b ∈ frs X.outer := fun b o e hb => by
    rcases List.mem_cons.mp (I.stkSub b hb) with z | z
    · rw [z] at e
      exact absurd (Nat.lt_of_lt_of_le (Heap.lt_size e) I.ok.above) (Nat.lt_irrefl _)
    · exact z
  have noex : ∀ b : Addr, b ∉ X.ex := fun b => by rw [hex]; simp
  refine ⟨⟨fun b o e n hb _ => ?_, fun b o e n hb _ => ?_, fun b o e n _ => I.base.free b o e n (noex b), fun b o e _ => ?_, I.base.tups, I.base.frzs, I.base.tbls⟩, hok_fly I keep ha fun T z => (hT T z).1, ?_⟩
  · exact keep b o (s0a b o e).1 (s0a b o e).2 (fun z => hb (s0L b o e z)) (I.base.keep b o e n hb (noex b))
  · obtain ⟨sl, e1⟩ := I.base.slot b o e n hb (noex b)
    obtain ⟨sl', e2⟩ := slot b _ (by rw [hst]; exact frs_sub hb) e1
    exact ⟨sl', e2⟩
  · obtain ⟨o1, e1⟩ := I.base.there b o e (noex b)
    by_cases hb : b ∈ frs X.stack
    · obtain ⟨sl, e2⟩ := slot b o1 hb e1
      exact ⟨_, e2⟩
    · exact ⟨_, keep b o1 (s0a b o e).1 (s0a b o e).2 hb e1⟩
  · exact ⟨.ref T, fl, ha, na, fun T' z => by cases z; exact ⟨h_none I nT, s0_none I hex nT⟩⟩
def PassesX (CX : CXT) (X : Cx) (E : St → XK) : Prop := ∀ (pins : List (Addr × Obj)) (σ : St) (H : Hp) (s : Shared) (e : Value) (s' : Shared), Inv X pins σ H s → CX X.stack H s (E σ) e s' → X.xe e s'
end
section
variable {P : Program} {w : World} {K : PySem.W.Frag} {mg : Str → Option Value} {base : Heap} {N : List Str} {qual : Str} {scope : Scope} {f : Addr} {cd : Value} {A : Around} {outer : List Env} {s : Shared} {H : Hp} {E : XK}
theorem pass_def : PassesX (CXE P w) (cxOf (CXE P w) P w K mg base N qual scope f cd A outer s H E) (fun _ => E) := by
  intro pins σ H1 s1 e s2 I hx
  obtain ⟨a, cls, dct, H2, he, hos, hg, un, hok, ⟨hd, fl, ha, na, hT⟩, q⟩ := hx
  subst he
  have I2 : Inv (cxOf (CXE P w) P w K mg base N qual scope f cd A outer s H E) pins σ H2 s2 := I.call' hos un hok hg (fun b z => absurd z (by simp))
  show wpAny _ _ (leaving _ (.ref a)) _ _ s2
  refine fly_leave (env := envOfC qual scope s.heap.objs.size f cd) (outer := outer) I.ok.frames I2.stack rfl fl fun h' T n1 n2 k1 k2 fl' => ?_
  obtain ⟨y1, y2, y3⟩ := left_ok I2 rfl rfl ha (s0_none I rfl na) (fun T z => ⟨(hT T z).1, s0_none I rfl (hT T z).2⟩) n1 k1 k2 fl'
  exact ⟨a, cls, dct, H2, rfl, I2.os, I2.bare, y1, y2, y3, q⟩
theorem own_def : PassesOwn (model P w) (A.deeper (envOfC qual scope s.heap.objs.size f cd)) (envOfC qual scope s.heap.objs.size f cd) (cxOf (CXE P w) P w K mg base N qual scope f cd A outer s H E).xe := PassesOwn.leaving
end
section
variable {P : Program} {w : World} {K : PySem.W.Frag} {mg : Str → Option Value} {base : Heap}
end
def tCallX (sp : Sp) (dvs : List V) (E : St → XK) (t : TA) : TE := fun σ H Q => t σ H fun vs H1 => sp (vs ++ dvs) H1 Q (E σ)
def tMethX (C : Addr) (m : Str) (sp : Sp) (dvs : List V) (E : St → XK) (ta : TE) (t : TA) : TE := fun σ H Q => ta σ H fun x H1 => ∃ a dx fs, x = .ref a ∧ H1 a = some (.ins C dx fs) ∧ fs.lookup m = none ∧
  t σ H1 fun vs H2 => sp (x :: (vs ++ dvs)) H2 Q (E σ)
def tMakeX (C : Addr) (sp : Sp) (dvs : List V) (E : St → XK) (t : TA) : TE := fun σ H Q => t σ H fun vs H1 => ∀ x dx, H1 x = none → H1 dx = none → dx ≠ x →
  sp (.ref x :: (vs ++ dvs)) (upd (upd H1 dx (.own x)) x (.ins C dx [])) (fun v H2 => v = .non ∧ Q (.ref x) H2) (E σ)
section
variable {X : Cx} {CX : CXT} {k : Nat} {f C : Addr} {fd : FuncData} {ps : List Str} {sp : Sp} {dvs : List V} {ds : List Value} {E : St → XK} {x m : Str} {p pos apos : Pos} {e o : Expr} {es : List Expr} {ta : TE} {t : TA}
theorem run_fnX {pins : List (Addr × Obj)} {σ : St} {H : Hp} {s : Shared} {Q : VK} {us : List Value} {vs : List V} (F : FnOk X.prog X.w X.K X.mg X.base CX k f fd ps sp) (hr : Room k X.A) (hb : Binds X.K fd ps ds) (hd : Vals dvs ds) (hx : PassesX CX X E)
    (I : Inv X pins σ H s) (r : Vals vs us) (h : sp (vs ++ dvs) H Q (E σ)) : wpAny (model X.prog X.w) X.A (call (.ref f) us) (EP X pins σ Q) X.xe s := by
  have r2 : Vals (vs ++ dvs) (us ++ ds) := r.append hd
  have hl : (us ++ ds).length = ps.length := by rw [← r2.length]; exact F.len _ _ _ _ h
  refine wpAny_call (codeAny_mono (F.run X.A X.stack s H ⟨us, []⟩ (us ++ ds) (vs ++ dvs) Q (E σ) hr I.env0 (hb s us I.kIn hl) r2 h) fun r s' hq => ?_)
  cases r with
  | error e => exact hx pins σ H s e s' I hq
  | ok fl =>
    cases fl with
    | ret u => exact I.after hq
    | next => exact False.elim hq
    | brk => exact False.elim hq
    | cont => exact False.elim hq
theorem pe_callX (F : FnOk X.prog X.w X.K X.mg X.base CX k f fd ps sp) (hr : Room k X.A) (hg : Gl X x) (hm : X.mg x = some (.ref f)) (hk : PySem.W.keepIn X.K (.ref f) = true) (hb : Binds X.K fd ps ds) (hd : Vals dvs ds) (hx : PassesX CX X E)
    (ha : PA X (e :: es) t) (hdb : (x == ("__debug__" : Str)) = false := by decide) (he : starEach (e :: es) X.env = (false, eval e X.env) :: starEach es X.env := by rfl) (hpl : (backTo pos (starEach es X.env)).any (·.1) = false := by rfl) :
    PE X (.Call (.Name x p) (e :: es) [] pos) (tCallX sp dvs E t) := by
  intro pins s σ H Q I h
  refine wpAny_Call_Name_kw (ld_glob I hg hm ?_ hdb)
  refine PySem.W.callWith_K (h₀ := X.base) I.ok.mod.kin hk (thn (ha pos pins s σ H _ I h) fun us s1 ⟨vs, H1, I1, r, q⟩ => ⟨I1.kIn, ?_⟩) he hpl
  exact run_fnX F hr hb hd hx I1 r q
theorem pe_methX {pl : Sem Bool} (he : PE X o ta) (c : Cls X.K C) (hm : Meth X.K C m f) (F : FnOk X.prog X.w X.K X.mg X.base CX k f fd ps sp) (hr : Room k X.A) (hb : Binds X.K fd ps ds) (hd : Vals dvs ds) (hx : PassesX CX X E) (ha : PA X (e :: es) t)
    (hst : starEach (e :: es) X.env = (false, eval e X.env) :: starEach es X.env := by rfl) (hpl : (backTo pos (starEach es X.env)).any (·.1) = false := by rfl)
    (ht : eval (.Call (.Attribute o m apos) (e :: es) [] pos) X.env = (do
      let ov ← eval o X.env
      standAt apos.atName
      let (f, first) ← holding [ov] (getMethod ov m pl)
      callWith pos f first (backTo pos (starEach (e :: es) X.env)) (backToKw pos (keywordEach [] X.env))) := by rfl) :
    PE X (.Call (.Attribute o m apos) (e :: es) [] pos) (tMethX C m sp dvs E ta t) := by
  intro pins s σ H Q I h
  refine PySem.W.methodCall_KW (pl := pl) (thn (he pins s σ H _ I h) fun u s1 ⟨x, H1, I1, rx, a, dx, fs, ex, ea, l, q⟩ => ?_) ht
  subst ex
  obtain rfl : u = Value.ref a := rx
  refine getmeth_ok I1 ea c hm l ?_
  refine PySem.W.callWith_K (first := [.ref a]) (h₀ := X.base) I.ok.mod.kin hm.kp (thn (ha pos pins s1 σ H1 _ I1 q) fun us s2 ⟨vs, H2, I2, r, q2⟩ => ⟨I2.kIn, ?_⟩) hst hpl
  exact run_fnX (us := .ref a :: us) (vs := .ref a :: vs) F hr hb hd hx I2 (.cons rfl r) q2
theorem pe_methX0 {pl : Sem Bool} (he : PE X o ta) (c : Cls X.K C) (hm : Meth X.K C m f) (F : FnOk X.prog X.w X.K X.mg X.base CX k f fd ps sp) (hr : Room k X.A) (hb : Binds X.K fd ps ds) (hd : Vals dvs ds) (hx : PassesX CX X E)
    (ht : eval (.Call (.Attribute o m apos) [] [] pos) X.env = (do
      let ov ← eval o X.env
      standAt apos.atName
      let (f, first) ← holding [ov] (getMethod ov m pl)
      callWith pos f first (backTo pos (starEach [] X.env)) (backToKw pos (keywordEach [] X.env))) := by rfl) :
    PE X (.Call (.Attribute o m apos) [] [] pos) (tMethX C m sp dvs E ta tNil) := by
  intro pins s σ H Q I h
  refine PySem.W.methodCall_KW (pl := pl) (thn (he pins s σ H _ I h) fun u s1 ⟨x, H1, I1, rx, a, dx, fs, ex, ea, l, q⟩ => ?_) ht
  subst ex
  obtain rfl : u = Value.ref a := rx
  refine getmeth_ok I1 ea c hm l ?_
  exact PySem.W.callWith_K0 (first := [.ref a]) I1.kIn hm.kp (run_fnX (us := [.ref a]) (vs := [.ref a]) F hr hb hd hx I1 (.cons rfl .nil) q)
theorem run_makeX {pins : List (Addr × Obj)} {σ : St} {H : Hp} {s : Shared} {Q : VK} {us : List Value} {vs : List V} (M : Mk X.K C f) (F : FnOk X.prog X.w X.K X.mg X.base CX k f fd ps sp) (hr : Room (k + 1) X.A) (hb : Binds X.K fd ps ds) (hd : Vals dvs ds)
    (hx : ∀ (H2 : Hp) (s2 : Shared) (e : Value) (s' : Shared), Inv X pins σ H2 s2 → CX X.stack H2 s2 (E σ) e s' → X.xe e s') (I : Inv X pins σ H s) (r : Vals vs us)
    (h : ∀ x dx, H x = none → H dx = none → dx ≠ x → sp (.ref x :: (vs ++ dvs)) (upd (upd H dx (.own x)) x (.ins C dx [])) (fun v H2 => v = .non ∧ Q (.ref x) H2) (E σ)) :
    wpAny (model X.prog X.w) X.A (call (.ref C) us) (EP X pins σ Q) X.xe s := by
  have hq := h (s.heap.objs.size + 1) s.heap.objs.size (I.hok.fresh (Nat.le_succ _)) (I.hok.fresh (Nat.le_refl _)) (Nat.ne_of_lt (Nat.lt_succ_self _))
  have I2 := Inv.made (C := C) I
  have r2 : Vals (V.ref (s.heap.objs.size + 1) :: (vs ++ dvs)) (Value.ref (s.heap.objs.size + 1) :: (us ++ ds)) := .cons rfl (r.append hd)
  have hl : (Value.ref (s.heap.objs.size + 1) :: us ++ ds).length = ps.length := by
    have e := r2.length
    rw [F.len _ _ _ _ hq] at e
    exact e.symm
  refine wpAny_call (make_map (f := f) I.kIn M.makes M.init (beq_iff_eq.mp M.fn) (codeAny_mono (F.run _ X.stack _ _ ⟨Value.ref (s.heap.objs.size + 1) :: us, []⟩ (Value.ref (s.heap.objs.size + 1) :: (us ++ ds)) _ _ (E σ) (hr.make C us [])
    (I2.env0.make C us []) (hb _ (Value.ref (s.heap.objs.size + 1) :: us) I2.kIn hl) r2 hq) fun r s' hq' => ?_))
  cases r with
  | error e => exact hx _ _ e s' I2 hq'
  | ok fl =>
    cases fl with
    | ret u =>
      obtain ⟨v, H', I3, rv, ev, q3⟩ := I2.after hq'
      subst ev
      exact ⟨rv, ⟨V.ref (s.heap.objs.size + 1), H', I3, rfl, q3⟩⟩
    | next => exact False.elim hq'
    | brk => exact False.elim hq'
    | cont => exact False.elim hq'
theorem pe_makeX (M : Mk X.K C f) (F : FnOk X.prog X.w X.K X.mg X.base CX k f fd ps sp) (hr : Room (k + 1) X.A) (hg : Gl X x) (hm : X.mg x = some (.ref C)) (hb : Binds X.K fd ps ds) (hd : Vals dvs ds) (hx : PassesX CX X E)
    (ha : PA X (e :: es) t) (hdb : (x == ("__debug__" : Str)) = false := by decide) (he : starEach (e :: es) X.env = (false, eval e X.env) :: starEach es X.env := by rfl) (hpl : (backTo pos (starEach es X.env)).any (·.1) = false := by rfl) :
    PE X (.Call (.Name x p) (e :: es) [] pos) (tMakeX C sp dvs E t) := by
  intro pins s σ H Q I h
  refine wpAny_Call_Name_kw (ld_glob I hg hm ?_ hdb)
  refine PySem.W.callWith_K (h₀ := X.base) I.ok.mod.kin M.kp (thn (ha pos pins s σ H _ I h) fun us s1 ⟨vs, H1, I1, r, q⟩ => ⟨I1.kIn, ?_⟩) he hpl
  exact run_makeX M F hr hb hd (fun H2 s2 e s' J z => hx pins σ H2 s2 e s' J z) I1 r q
end
end L2

set_option maxHeartbeats 4000000
namespace L2
open PySem PySem.Spec PyProof.Rows
def bmV : List Value := [.type "ValueError", .type "Exception", .type "BaseException", .type "object"]
def XCls (K : PySem.W.Frag) (C : Addr) : Prop := PySem.W.excIn K C bmV "ValueError.__new__" = true
theorem XCls.obj {K : PySem.W.Frag} {C : Addr} (q : XCls K C) : ∃ bm N nm qn bs hdct sn sub ab col dd k0 k1 k2 k3 k5, PySem.W.nsOkIn K N = true ∧ PySem.W.nsIn K N "__init__" = some none ∧ PySem.W.tailIn K bmV bm = true ∧
    K.lookup C = some (excClassObj nm qn C N bs bm hdct sn sub ab col dd k0 k1 k2 k3 k5 "ValueError.__new__") := by
  unfold XCls PySem.W.excIn at q
  split at q
  · next dd cd sl lk =>
    split at q
    · next C' bm k0 k1 k2 k3 nid k5 em es =>
      simp only [Bool.and_eq_true, beq_iff_eq, Bool.not_eq_true'] at q
      obtain ⟨⟨⟨⟨⟨e1, e2⟩, e3⟩, e4⟩, e5⟩, e6⟩ := q
      subst e1
      subst e2
      obtain ⟨nm, bs, mro, ns, qn, hdct, sn, sub, ab, col, del⟩ := cd
      dsimp only at em e3 e5 e6
      subst em
      subst e3
      obtain ⟨sll⟩ := sl
      dsimp only at es
      subst es
      exact ⟨bm, ns, nm, qn, bs, hdct, sn, sub, ab, col, dd, k0, k1, k2, k3, k5, e5, e6, e4, lk⟩
    · cases q
  · cases q
theorem ns_two {K : PySem.W.Frag} {N : Addr} {h h2 : Heap} {m : Str → Option Value} (ok : PySem.W.nsOkIn K N = true) (X : K.In h) (X2 : K.In h2) (n : h.Ns N m) : h2.Ns N m := by
  obtain ⟨o, es, ep, ho, r⟩ := n
  unfold PySem.W.nsOkIn at ok
  split at ok
  · next lk =>
    have e := X _ _ lk
    rw [ho] at e
    cases e
    exact ⟨_, es, ep, X2 _ _ lk, r⟩
  · cases ok
section
variable {X : Cx} {E : St → XK} {x : Str} {C : Addr} {e₀ : Expr} {es : List Expr} {t : TA} {np cpos pos : Pos}
def tRaise (C : Addr) (E : St → XK) (t : TA) : TS := fun _ σ H => t σ H fun vs H1 => vs.length ≤ sizeLine ∧ E σ (.ref C) none H1
theorem ps_raise (hC : XCls X.K C) (hc : X.calm = true) (hg : Gl X x) (hm : X.mg x = some (.ref C)) (hx : PassesX (CXE X.prog X.w) X E) (ha : PA X (e₀ :: es) t) (hdb : (x == ("__debug__" : Str)) = false := by decide)
    (he : starEach (e₀ :: es) X.env = (false, eval e₀ X.env) :: starEach es X.env := by rfl) (hpl : (backTo cpos (starEach es X.env)).any (·.1) = false := by rfl) :
    PS X (.Raise (some (.Call (.Name x np) (e₀ :: es) [] cpos)) none pos) (tRaise C E t) := by
  intro pins s σ H D I h
  obtain ⟨bm, N, nm, qn, bs, hdct, sn, sub, ab, col, dd, k0, k1, k2, k3, k5, f1, f2, f3, f4⟩ := hC.obj
  have hN := PySem.Heap.Ns.of_isNs (PySem.W.isNs_of_in I.kIn f1)
  refine wpAny_Raise_call_subT (C := C) (nm := nm) (q := qn) (N := N) (bs := bs) (bm := bm) (hdct := hdct) (sn := sn) (sub := sub) (ab := ab) (col := col) (dd := dd) (k0 := k0) (k1 := k1) (k2 := k2) (k3 := k3) (k5 := k5)
    PySem.F.excBase_ValueError (mN := s.heap.nsMap N) ((PySem.W.tail_of_in I.kIn f3).hasType PySem.F.excBase_ValueError.hasBase) (I.ok.hd hc) ?_ (PySem.W.nsMap_none_of_in I.kIn f1 f2) (ld_glob I hg hm ⟨rfl, ?_⟩ hdb)
  · rw [he]
    show (false || (backTo cpos (starEach es X.env)).any (·.1)) = false
    rw [hpl]
    rfl
  · have ha' := ha cpos pins s σ H _ I h
    rw [he] at ha' ⊢
    refine Calls.evalArgs_plain (thn ha' fun us s2 q => ?_)
    obtain ⟨vs, H1, I1, r, z, q⟩ := q
    refine ⟨rfl, by rw [← r.length]; exact z, I1.kIn _ _ f4, ns_two f1 I.kIn I1.kIn hN, PySem.W.tail_of_in I1.kIn f3, fun h' e hmade => ?_⟩
    obtain ⟨tp, q1, _, _⟩ := hmade.there
    exact hx pins σ H1 s2 (.ref e) _ I1 ⟨e, .ref C, none, H1, rfl, rfl, I1.bare, Un.kept hmade.keeps, I1.hok.kept hmade.keeps, ⟨.none, ⟨_, _, q1, rfl, rfl, rfl, rfl, .inl rfl⟩, h_none I1 hmade.new, hmade.new, fun T z => nomatch z⟩, q⟩
end
section
variable {X : Cx} {pins pins' : List (Addr × Obj)} {σ : St} {H H' : Hp} {s : Shared} {h' : Heap} {a T : Addr} {cls hd : Value} {dct : Option Addr}
theorem Inv.recx {pn' : List (Addr × Obj)} {A' : Around} {calm' : Bool} {xe' : Value → Shared → Prop} (I : Inv X pins σ H s) (hA : A'.frames = X.A.frames) (hcalm : calm' = true → A'.handled = none) (hp : ∀ p ∈ pn' ++ pins', p ∈ X.pn ++ pins) :
    Inv { X with pn := pn', A := A', calm := calm', xe := xe' } pins' σ H s :=
  ⟨⟨I.ok.mod, I.ok.kind, I.ok.glob, I.ok.blt, I.ok.above, I.ok.inj, I.ok.has, I.ok.cab, hcalm, hA.trans I.ok.frames, I.ok.stk, I.ok.exf, I.ok.bs, I.ok.bsz, I.ok.noex, I.ok.exfs, I.ok.funs, I.ok.frf⟩,
    I.os, I.bare, I.base, I.loc, I.cell, I.free, I.freeC, fun p q => I.pin p (hp p q), I.hok, I.len⟩
theorem Inv.recb {pn' : List (Addr × Obj)} {A' : Around} {calm' : Bool} {xe' : Value → Shared → Prop} (I : Inv { X with pn := pn', A := A', calm := calm', xe := xe' } pins' σ H s) (hA : A'.frames = X.A.frames) (hcalm : X.calm = true → X.A.handled = none) (hp : ∀ p ∈ X.pn ++ pins, p ∈ pn' ++ pins') :
    Inv X pins σ H s :=
  ⟨⟨I.ok.mod, I.ok.kind, I.ok.glob, I.ok.blt, I.ok.above, I.ok.inj, I.ok.has, I.ok.cab, hcalm, hA.symm.trans I.ok.frames, I.ok.stk, I.ok.exf, I.ok.bs, I.ok.bsz, I.ok.noex, I.ok.exfs, I.ok.funs, I.ok.frf⟩,
    I.os, I.bare, I.base, I.loc, I.cell, I.free, I.freeC, fun p q => I.pin p (hp p q), I.hok, I.len⟩
theorem Inv.flew (I : Inv X pins σ H s) (ha : H a = none) (na : X.s₀.heap.get? a = none) (hT : ∀ T, hd = .ref T → H T = none ∧ X.s₀.heap.get? T = none) (fl : FlyT s.heap a cls dct hd) (hp : ∀ p ∈ X.pn ++ pins, p.1 ≠ a ∧ hd ≠ .ref p.1)
    (keep : ∀ b o, b ≠ a → hd ≠ .ref b → b ∉ frs X.stack → s.heap.get? b = some o → h'.get? b = some o)
    (slot : ∀ b o, b ∈ frs X.stack → s.heap.get? b = some o → ∃ sl, h'.get? b = some { o with slots := sl }) {t' : Nat} : Inv X pins σ H { s with heap := h', toks := t' } := by
  obtain ⟨oe, vs, he, _, _, hdt, _, hc⟩ := fl
  have fT : ∀ T, hd = .ref T → ∃ o ts, s.heap.get? T = some o ∧ o.data = .fields ts := fun T z => by
    rcases hc with q | ⟨T', oT, ts, q, _, q2, q3, _⟩
    · rw [z] at q; cases q
    · rw [z] at q; cases q; exact ⟨_, _, q2, q3⟩
  have off : ∀ b o, s.heap.get? b = some o → (∀ ws, o.data ≠ .fields ws) → b ≠ a ∧ hd ≠ .ref b := fun b o e hn => ⟨fun z => (by rw [z, he] at e; cases e; exact hn vs hdt), fun z => by
    obtain ⟨o', ts, q1, q2⟩ := fT b z
    rw [q1] at e; cases e; exact hn ts q2⟩
  have s0 : ∀ b o, X.s₀.heap.get? b = some o → b ≠ a ∧ hd ≠ .ref b := fun b o e => ⟨fun z => (by rw [z, na] at e; cases e), fun z => (by rw [(hT b z).2] at e; cases e)⟩
  have s0L : ∀ b o, X.s₀.heap.get? b = some o → b ∈ frs X.stack → b ∈ X.fs := fun b o e hb => by
    rcases List.mem_cons.mp (I.stkSub b hb) with z | z
    · rw [z] at e
      exact absurd (Nat.lt_of_lt_of_le (Heap.lt_size e) I.ok.above) (Nat.lt_irrefl _)
    · exact z
  have any : ∀ b o, s.heap.get? b = some o → b ≠ a → hd ≠ .ref b → ∃ sl, h'.get? b = some { o with slots := sl } := fun b o e n1 n2 => by
    by_cases hb : b ∈ frs X.stack
    · exact slot b o hb e
    · exact ⟨o.slots, keep b o n1 n2 hb e⟩
  have inStack : ∀ b, b ∈ X.fs → b ∈ frs X.stack := fun b hb => by
    rcases I.ok.stk with z | ⟨z, _⟩
    · rw [z]; exact hb
    · rw [z]; exact frs_sub hb
  refine ⟨I.ok, I.os, I.bare, ⟨fun b o e n hb hx => ?_, fun b o e n hb hx => ?_, fun b o e n hx => I.base.free b o e n hx, fun b o e hx => ?_, I.base.tups, I.base.frzs, I.base.tbls⟩, ?_, fun y c e => ?_, I.free, I.freeC, fun p q => ?_, hok_fly I keep ha fun T z => (hT T z).1, I.len⟩
  · exact keep b o (s0 b o e).1 (s0 b o e).2 (fun z => hb (s0L b o e z)) (I.base.keep b o e n hb hx)
  · obtain ⟨sl, e1⟩ := I.base.slot b o e n hb hx
    obtain ⟨sl', e2⟩ := slot b _ (inStack b hb) e1
    exact ⟨sl', e2⟩
  · obtain ⟨o1, e1⟩ := I.base.there b o e hx
    obtain ⟨sl, e2⟩ := any b o1 e1 (s0 b o e).1 (s0 b o e).2
    exact ⟨_, e2⟩
  · obtain ⟨m, ⟨o, es, ep, ho, hd', r⟩, hl⟩ := I.loc
    have nf := off _ o ho fun ws z => by rw [hd'] at z; cases z
    obtain ⟨sl, e2⟩ := any _ o ho nf.1 nf.2
    refine ⟨m, ⟨_, es, ep, e2, hd', r⟩, fun i x v q1 q2 q3 => ?_⟩
    obtain ⟨u, r1, l⟩ := hl i x v q1 q2 q3
    refine ⟨u, r1, ?_⟩
    rcases l with l | ⟨k, c, e, oc, hoc, hcd⟩
    · exact .inl l
    · have nf := off c oc hoc fun ws z => by rw [hcd] at z; cases z
      obtain ⟨sl, e3⟩ := any c oc hoc nf.1 nf.2
      exact .inr ⟨k, c, e, _, e3, hcd⟩
  · obtain ⟨v, oc, hoc, hcd⟩ := I.cell y c e
    have nf := off c oc hoc fun ws z => by rw [hcd] at z; cases z
    obtain ⟨sl, e3⟩ := any c oc hoc nf.1 nf.2
    exact ⟨v, _, e3, hcd⟩
  · obtain ⟨e, n, ne, nf, d⟩ := I.pin p q
    refine ⟨keep p.1 p.2 (hp p q).1 (hp p q).2 (fun z => ?_) e, n, ne, nf, d⟩
    rcases List.mem_cons.mp (I.stkSub p.1 z) with z | z
    · exact ne z
    · exact nf z
def exO (a : Addr) (cls : Value) (dct : Option Addr) : HO := .ext fun h => ∃ oe vs, h.get? a = some oe ∧ oe.cls = cls ∧ oe.dict = dct ∧ oe.data = .fields vs
theorem Inv.track (I : Inv X pins σ H s) (ha : H a = none) (na : X.s₀.heap.get? a = none) (hp : ∀ p ∈ X.pn ++ pins, p.1 ≠ a) (fl : FlyT s.heap a cls dct hd) : Inv X pins σ (upd H a (exO a cls dct)) s := by
  obtain ⟨oe, vs, he, f1, f2, hdt, _, _⟩ := fl
  have off : ∀ b o, s.heap.get? b = some o → (∀ ws, o.data ≠ .fields ws) → b ≠ a := fun b o e hn z => by rw [z, he] at e; cases e; exact hn vs hdt
  have tr : ∀ b u, H b = some u → upd H a (exO a cls dct) b = some u := fun b u q => by rw [upd_ne (ne_of_none q ha)]; exact q
  refine ⟨I.ok, I.os, I.bare, ⟨I.base.keep, I.base.slot, fun b o e n hx => ?_, I.base.there, fun b xs e => tr b _ (I.base.tups b xs e), fun b o u e => tr b _ (I.base.frzs b o u e), fun b ps e => ?_⟩, I.loc, I.cell, ?_, fun y c e => ?_, fun p q => ?_, fun b u e => ?_, I.len⟩
  · rw [upd_ne (fun z => (by rw [z, na] at e; cases e))]
    exact I.base.free b o e n hx
  · obtain ⟨more, q⟩ := I.base.tbls b ps e
    exact ⟨more, tr b _ q⟩
  · obtain ⟨m, ⟨o, es, ep, ho, hd', r⟩, _⟩ := I.loc
    rw [upd_ne (off _ o ho fun ws z => (by rw [hd'] at z; cases z))]
    exact I.free
  · obtain ⟨v, oc, hoc, hcd⟩ := I.cell y c e
    rw [upd_ne (off c oc hoc fun ws z => (by rw [hcd] at z; cases z))]
    exact I.freeC y c e
  · obtain ⟨e, n, r⟩ := I.pin p q
    exact ⟨e, by rw [upd_ne (hp p q)]; exact n, r⟩
  · by_cases hb : b = a
    · subst hb
      rw [upd_same] at e
      cases e
      exact ⟨⟨oe, vs, he, f1, f2, hdt⟩, ⟨_, he⟩, fun h1 h2 ⟨o', ws, q1, q2⟩ k => ⟨o', ws, k _ q1, q2⟩⟩
    · rw [upd_ne hb] at e
      exact (I.hok b u e).stay (fun _ _ _ q => q) (fun c q => tr c _ q) fun c xs q => tr c _ q
end
theorem matches_own {M : Model} {A : Around} {E : Value → Shared → Prop} {s : Shared} {K : PySem.W.Frag} {e D : Addr} {oe : Obj} {C : Addr} {b : Bool} {Q : Bool → Shared → Prop} (X : K.In s.heap) (he : s.heap.get? e = some oe) (hc : oe.cls = .ref C)
    (hD : XCls K D) (hsub : PySem.W.mroIn K C (.ref D) = some b) (h : Q b s) : wpAny M A (excMatches (.ref e) (.ref D)) Q E s := by
  obtain ⟨bm, N, nm, qn, bs, hdct, sn, sub, ab, col, dd, k0, k1, k2, k3, k5, f1, f2, f3, f4⟩ := hD.obj
  have hD0 := X _ _ f4
  have L := PySem.W.looks_mroIn (M := M) X hsub
  obtain ⟨hp, g, d, tk, os⟩ := s
  have hcB : (Value.ref D :: bm).contains (.type "BaseException") = true := by rw [List.contains_cons, (PySem.W.tail_of_in X f3).hasType (show bmV.contains (.type "BaseException") = true by decide +kernel), Bool.or_true]
  have ft := tc_notTuple
  unfold excMatches
  repeat (first | (with_reducible refine wpAny_loadPart_at he ?_; rw [hc]) | with_reducible refine wpAny_loadPart_at hD0 ?_ | (with_reducible refine wpAny_isSubtype_exc hD0 ?_; rw [hcB]) | (with_reducible refine L.at ?_) | wp_step)
  cases b <;> (try wp_walk) <;> exact h
def asEnds (i : Nat) (D : Ends) : Ends := { nx := fun σ H => D.nx (σ.set i none) H, rt := D.rt, bk := fun σ H => D.bk (σ.set i none) H, ct := fun σ H => D.ct (σ.set i none) H }
def tTryAs (K : PySem.W.Frag) (D : Addr) (i : Nat) (tb : (St → XK) → TS) (ts : TS) : TS := fun Dn σ H =>
  tb (fun σ' cls dct H' => ∃ C, cls = .ref C ∧ PySem.W.mroIn K C (.ref D) = some true ∧ ∀ a, H' a = none → ts (asEnds i Dn) (σ'.set i (some (.ref a))) (upd H' a (exO a (.ref C) dct))) Dn σ H
theorem ps_try_as {X : Cx} {body suite : List Stmt} {b₀ : Stmt} {x n : Str} {np hpos pos : Pos} {D : Addr} {i : Nat} {tb : (St → XK) → TS} {ts : TS}
    (hc : X.calm = true) (hex : X.ex = []) (hst : X.stack = X.env :: X.outer) (hfr : X.env.frame = some X.env.locals) (hD : XCls X.K D) (hg : Gl X x) (hm : X.mg x = some (.ref D))
    (hN : X.N.Nodup) (hi : X.N[i]? = some n) (hl : X.env.scope.names.lookup n = some .local)
    (hb : ∀ (pn : List (Addr × Obj)) (xe : Value → Shared → Prop) (EX : St → XK), PassesX (CXE X.prog X.w) { X with pn := pn, xe := xe } EX → PSs { X with pn := pn, xe := xe } body (tb EX))
    (hs : ∀ (pn : List (Addr × Obj)) (A' : Around) (xe : Value → Shared → Prop), PSs { X with pn := pn, A := A', calm := false, xe := xe } (b₀ :: suite) ts) (hdb : (x == ("__debug__" : Str)) = false := by decide) :
    PS X (.Try body [.ExceptHandler (some (.Name x np)) (some n) (b₀ :: suite) hpos] [] [] pos) (tTryAs X.K D i tb ts) := by
  intro pins s σ H Dn I h
  have hh := I.ok.hd hc
  refine wpAny_Try_except ?_
  have back : ∀ {xe : Value → Shared → Prop} {σ' : St} {H' : Hp} {s' : Shared}, Inv { X with pn := X.pn ++ pins, xe := xe } [] σ' H' s' → Inv X pins σ' H' s' := fun {xe σ' H' s'} J =>
    Inv.recb (A' := X.A) (calm' := X.calm) J rfl (fun _ => hh) fun p q => by simpa using q
  refine wpAny_mono (hb (X.pn ++ pins) (fun e s₁ => wpAny (model X.prog X.w) X.A (noteFrame e X.env) (fun _ s₂ => wpAny (model X.prog X.w) X.A (setFlight e none) (fun _ s₃ =>
      wpAny (model X.prog X.w) X.A (handleBy e X.env [.ExceptHandler (some (.Name x np)) (some n) (b₀ :: suite) hpos]) (SP X pins Dn) X.xe s₃) X.xe s₂) X.xe s₁) _ ?_ [] s σ H Dn
      (Inv.recx (A' := X.A) (calm' := X.calm) I rfl (fun _ => hh) fun p q => by simpa using q) h) (fun f s1 q => ?_) fun _ _ z => z
  · intro pins2 σ2 H2 s2 e s3 I2 hx
    obtain ⟨a, cls, dct, H3, he, hos, hgn, un, hok, ⟨hd, fl, ha, na, hT⟩, C, hcls, hsub, q⟩ := hx
    subst he
    subst hcls
    have I3 := I2.call' hos un hok hgn (fun b z => absurd z (by simp))
    have na0 := s0_none I2 hex na
    have hT0 : ∀ T, hd = .ref T → H3 T = none ∧ X.s₀.heap.get? T = none := fun T z => ⟨(hT T z).1, by have q := s0_none I2 hex (hT T z).2; exact q⟩
    have hp3 : ∀ p ∈ (X.pn ++ pins) ++ pins2, p.1 ≠ a ∧ hd ≠ .ref p.1 := fun p z => by
      have e := (I2.pin p z).1
      exact ⟨fun w => (by rw [w, na] at e; cases e), fun w => (by rw [(hT _ w).2] at e; cases e)⟩
    refine fly_note (env := X.env) (outer := X.outer) (by have := I.ok.frames; rw [hst] at this; exact this) (by have := I3.stack; rw [show Cx.stack _ = X.env :: X.outer from hst] at this; exact this) hfr fl fun h4 T n1 n2 k1 k2 fl4 => ?_
    have I4 : Inv _ pins2 σ2 H3 { s3 with heap := h4, toks := s3.toks } := I3.flew ha na0 hT0 fl hp3 (fun b o m1 m2 m3 e => k1 b o m1 m2 (by rw [← hst]; exact m3) e) (fun b o m1 e => k2 b o (by rw [← hst]; exact m1) e)
    have nT4 : H3 T = none := h_none I3 n1
    have nT0 := s0_none I3 hex n1
    have hp4 : ∀ p ∈ (X.pn ++ pins) ++ pins2, p.1 ≠ a ∧ (Value.ref T : Value) ≠ .ref p.1 := fun p z => ⟨(hp3 p z).1, fun w => by
      have e := (I3.pin p z).1
      cases w
      rw [n1] at e; cases e⟩
    obtain ⟨oe, vs, g1, g2, _⟩ := id fl4
    have J40 := Inv.recx (A' := X.A.mark (some (.ref a))) (calm' := false) (pn' := X.pn ++ pins) (pins' := pins2) (xe' := fun _ _ => True) I4 rfl (fun z => nomatch z) (fun p q => q)
    have J4 : Inv { X with pn := X.pn ++ pins, A := X.A.mark (some (.ref a)), calm := false, xe := fun _ _ => True } pins2 σ2 H3 { s3 with heap := h4 } := J40
    refine wpAny_handleBy_cons (codeAny_handlers_test ?_) (by intro z; cases z)
    refine ld_glob (X := { X with pn := X.pn ++ pins, A := X.A.mark (some (.ref a)), calm := false, xe := fun _ _ => True }) J4 hg hm ?_ hdb
    refine matches_own J4.kIn g1 g2 hD hsub ?_
    refine codeAny_handlers_suite_as (fly_rest fl4 fun h5 k5 fl5 => ?_)
    have J5 := J4.flew (h' := h5) (t' := s3.toks) ha na0 (fun T' z => by cases z; exact ⟨nT4, nT0⟩) fl4 hp4 (fun b o _ m2 _ e => k5 b o (fun z => m2 (by rw [z])) e) (fun b o m1 e => by
      refine ⟨o.slots, k5 b o (fun z => ?_) e⟩
      obtain ⟨_, o', ho', hn⟩ := J4.stack.mem m1
      obtain ⟨oe', vs', _, _, _, _, _, hcc⟩ := id fl4
      rcases hcc with w | ⟨T', oT, ts', w, _, w2, w3, _⟩
      · cases w
      · cases w
        rw [z, w2] at ho'
        cases ho'
        exact hn _ w3)
    have J6 := J5.track ha na0 (fun p z => (hp4 p z).1) fl5
    refine store_ok (X := { X with pn := X.pn ++ pins, A := X.A.mark (some (.ref a)), calm := false, xe := fun _ _ => True }) (v := .ref a) J6 hN hi (.inl hl) rfl (fun s7 J7 => ?_) (.inr hl)
    refine wpAny_mono ((hs (X.pn ++ pins) (X.A.mark (some (.ref a))) _) pins2 s7 _ _ (asEnds i Dn) (Inv.recx (X := { X with pn := X.pn ++ pins, A := X.A.mark (some (.ref a)), calm := false, xe := fun _ _ => True }) (A' := X.A.mark (some (.ref a))) (calm' := false) (pn' := X.pn ++ pins) J7 rfl (fun z => nomatch z) fun p q => q) (q a ha)) (fun f s8 w => ?_) fun _ _ z => z
    have fin : ∀ {xe : Value → Shared → Prop} {σ' : St} {H' : Hp} {Q' : Unit → Shared → Prop}, Inv { X with pn := X.pn ++ pins, A := X.A.mark (some (.ref a)), calm := false, xe := xe } pins2 σ' H' s8 → (∀ s9, Inv X pins (σ'.set i none) H' s9 → Q' () s9) →
        wpAny (model X.prog X.w) X.A (do bindName X.env n .none; unbindBehindTheSuite X.env n hpos) Q' X.xe s8 := fun {xe σ' H' Q'} J k => by
      have J' : Inv X pins σ' H' s8 := Inv.recb (A' := X.A.mark (some (.ref a))) (calm' := false) J rfl (fun _ => hh) fun p q => by simp; rcases List.mem_append.mp q with z | z <;> simp [z]
      obtain ⟨m, hn, hlo⟩ := J'.loc
      refine wpAny_nameGoes_keeps hl hn (by rw [J'.ok.kind]; rfl) fun h9 v hn9 sb => k _ ?_
      have J8 : Inv X pins σ' H' { s8 with toks := s8.toks + 1 } := J'.tok _
      obtain ⟨oL, _, _, hoL, _⟩ := id hn
      have cne := J'.cne
      have oth : ∀ b o, b ≠ X.env.locals → s8.heap.get? b = some o → h9.get? b = some o := fun b o nb e => (sb.2 b nb).trans e
      refine ⟨J'.ok, J'.os, J'.bare, ⟨fun b o e n hb hx => ?_, fun b o e n hb hx => ?_, J'.base.free, fun b o e hx => ?_, J'.base.tups, J'.base.frzs, J'.base.tbls⟩, ⟨_, hn9, fun j y v' e1 e2 e3 => ?_⟩, fun y c e => ?_, J'.free, J'.freeC, fun p hp => ?_, fun b ob e => ?_, by simpa using J'.len⟩
      · exact oth b o (Nat.ne_of_lt (Nat.lt_of_lt_of_le (Heap.lt_size e) J'.ok.above)) (J'.base.keep b o e n hb hx)
      · obtain ⟨sl, e1⟩ := J'.base.slot b o e n hb hx
        exact ⟨sl, oth b _ (Nat.ne_of_lt (Nat.lt_of_lt_of_le (Heap.lt_size e) J'.ok.above)) e1⟩
      · obtain ⟨o', e1⟩ := J'.base.there b o e hx
        exact ⟨o', oth b _ (Nat.ne_of_lt (Nat.lt_of_lt_of_le (Heap.lt_size e) J'.ok.above)) e1⟩
      · by_cases hj : j = i
        · subst hj
          rw [List.getElem?_set_self (by rw [J'.len]; exact (List.getElem?_eq_some_iff.mp hi).1)] at e2
          cases e2
        · rw [List.getElem?_set_ne (Ne.symm hj)] at e2
          obtain ⟨u', r', w'⟩ := hlo j y v' e1 e2 e3
          refine ⟨u', r', ?_⟩
          rcases w' with ⟨k', e⟩ | ⟨k', c, e, z⟩
          · refine .inl ⟨k', ?_⟩
            have : y ≠ n := fun e => hj (nodup_ix hN e1 (e ▸ hi))
            simp [this, e]
          · exact .inr ⟨k', c, e, z.sameBut sb (cne y c e)⟩
      · obtain ⟨w', z⟩ := J'.cell y c e
        exact ⟨w', z.sameBut sb (cne y c e)⟩
      · obtain ⟨e, n, ne, nf, d⟩ := J'.pin p hp
        exact ⟨oth p.1 _ ne e, n, ne, nf, d⟩
      · refine (J'.hok b ob e).stay (fun c w' hc q => oth c w' ?_ q) (fun _ q => q) fun _ _ q => q
        rintro rfl
        rcases hc with rfl | hc
        · rw [J'.free] at e; cases e
        · rw [J'.free] at hc; cases hc
    cases f with
    | next => obtain ⟨σ', H', J, d⟩ := w; exact fin J fun s9 J9 => ⟨_, H', J9, d⟩
    | brk => obtain ⟨σ', H', J, d⟩ := w; exact fin J fun s9 J9 => ⟨_, H', J9, d⟩
    | cont => obtain ⟨σ', H', J, d⟩ := w; exact fin J fun s9 J9 => ⟨_, H', J9, d⟩
    | ret u => obtain ⟨v, σ', H', J, r, d⟩ := w; exact fin J fun s9 J9 => ⟨v, _, H', J9, r, d⟩
  · cases f with
    | next => obtain ⟨σ', H', J, d⟩ := q; exact wpAny_execs_nil ⟨σ', H', back J, d⟩
    | brk => obtain ⟨σ', H', J, d⟩ := q; exact ⟨σ', H', back J, d⟩
    | cont => obtain ⟨σ', H', J, d⟩ := q; exact ⟨σ', H', back J, d⟩
    | ret u => obtain ⟨v, σ', H', J, r, d⟩ := q; exact ⟨v, σ', H', back J, r, d⟩
end L2

set_option maxHeartbeats 4000000
namespace L2
open PySem PySem.Spec PyProof.Rows PyProof.V PySem.SeqAt
mutual
inductive DatV (K : PySem.W.Frag) (H : Hp) : V → PyData → Prop
  | non : DatV K H .non .none
  | bl (b : Bool) : DatV K H (.bl b) (.bool b)
  | int (i : Int) : DatV K H (.int i) (.int i)
  | str (x : Str) : DatV K H (.str x) (.str x)
  | lst {a : Addr} {xs : List V} {ds : List PyData} : SqL K H a xs → DatAll K H xs ds → DatV K H (.ref a) (.list ds)
  | tup {a : Addr} {xs : List V} {ds : List PyData} : SqT K H a xs → DatAll K H xs ds → DatV K H (.ref a) (.tuple ds)
inductive DatAll (K : PySem.W.Frag) (H : Hp) : List V → List PyData → Prop
  | nil : DatAll K H [] []
  | cons {x : V} {xs : List V} {d : PyData} {ds : List PyData} : DatV K H x d → DatAll K H xs ds → DatAll K H (x :: xs) (d :: ds)
end
theorem datAll_ints (K : PySem.W.Frag) (H : Hp) : ∀ ns : List Int, DatAll K H (ns.map V.int) (ns.map PyData.int)
  | [] => .nil
  | n :: r => .cons (.int n) (datAll_ints K H r)
section
variable {X : Cx} {pins : List (Addr × Obj)} {σ : St} {H : Hp} {s : Shared}
mutual
theorem DatV.reads (I : Inv X pins σ H s) {v : V} {d : PyData} (h : DatV X.K H v d) {u : Value} (r : RelV v u) : ∃ as, Reads s.heap u d as := by
  cases h with
  | non => cases r; exact ⟨_, .none⟩
  | bl b => cases r; exact ⟨_, .bool b⟩
  | int i => obtain ⟨t, rfl⟩ := r; exact ⟨_, .int i t⟩
  | str x => obtain ⟨t, rfl⟩ := r; exact ⟨_, .str x t⟩
  | lst hq ha =>
    cases r
    obtain ⟨its, rv, ⟨o, n, e, c, _, dd⟩, _⟩ := I.list hq
    obtain ⟨as, q⟩ := DatAll.reads I ha rv
    exact ⟨_, .list e c dd (by simpa using q)⟩
  | tup hq ha =>
    cases r
    obtain ⟨its, rv, ⟨o, e, c, n, dd⟩, _⟩ := I.tuple hq
    obtain ⟨as, q⟩ := DatAll.reads I ha rv
    exact ⟨_, .tuple e c dd (by simpa using q)⟩
theorem DatAll.reads (I : Inv X pins σ H s) {vs : List V} {ds : List PyData} (h : DatAll X.K H vs ds) {us : List Value} (r : Vals vs us) : ∃ as, ReadsAll s.heap us ds as := by
  cases h with
  | nil => cases r; exact ⟨_, .nil⟩
  | cons h1 h2 =>
    cases r with
    | cons r1 r2 =>
      obtain ⟨a1, q1⟩ := DatV.reads I h1 r1
      obtain ⟨a2, q2⟩ := DatAll.reads I h2 r2
      exact ⟨_, .cons q1 q2⟩
end
def rEqD (K : PySem.W.Frag) : R2 := fun x y H Q => ∃ d d', DatV K H x d ∧ DatV K H y d' ∧ shaped d = true ∧ shaped d' = true ∧ noMix d d' = true ∧ Q (.bl (same d d')) H
def rNeD (K : PySem.W.Frag) : R2 := fun x y H Q => ∃ d d', DatV K H x d ∧ DatV K H y d' ∧ shaped d = true ∧ shaped d' = true ∧ noMix d d' = true ∧ Q (.bl (!same d d')) H
theorem op_eqD (hu : X.A.units + 64 < cLine) : OpR X (compareOp .Eq) (rEqD X.K) := by
  intro pins s σ H x y v u Q I rx ry h
  obtain ⟨d, d', h1, h2, s1, s2, nm, q⟩ := h
  obtain ⟨_, r1⟩ := h1.reads I rx
  obtain ⟨_, r2⟩ := h2.reads I ry
  exact eq_dataH_same r1 r2 s1 s2 hu nm ⟨.bl _, H, I, rfl, q⟩
theorem op_neD (hu : X.A.units + 64 < cLine) : OpR X (compareOp .NotEq) (rNeD X.K) := by
  intro pins s σ H x y v u Q I rx ry h
  obtain ⟨d, d', h1, h2, s1, s2, nm, q⟩ := h
  obtain ⟨_, r1⟩ := h1.reads I rx
  obtain ⟨_, r2⟩ := h2.reads I ry
  exact ne_dataH_same r1 r2 s1 s2 hu nm ⟨.bl _, H, I, rfl, q⟩
end
theorem eq_pure {M : Model} {A : Around} {m : Sem Unit} {Q : Unit → Shared → Prop} {E : Value → Shared → Prop} {s : Shared} (h : m = pure ()) (q : Q () s) : wpAny M A m Q E s := by rw [h]; exact wpAny_pure q
theorem exc_class {prog : Program} {w : World} {A : Around} {E : Value → Shared → Prop} {s : Shared} {K : PySem.W.Frag} {x D : Addr} {oe : Obj} {Q : Option Value → Shared → Prop} (X : K.In s.heap) (I : PySem.W.InstAt s.heap x oe D none)
    (hga : PySem.W.findIn K (.ref D) "__getattribute__" = some (some (.builtin "BaseException.__getattribute__"))) (hno : PySem.W.findIn K (.ref D) "__getattr__" = some none) (hb : PySem.W.mroIn K D (.type "BaseException") = some true)
    (hm : PySem.W.mroIn K D (.type "object") = some true) (hf : PySem.W.findObj K D none "__class__" = some (.bind (.builtin "getset_descriptor.__get__") (.builtin "object.__class__"))) (h : Q (some (.ref D)) { s with toks := s.toks + 1 }) :
    wpAny (model prog w) A (getAttr? (.ref x) "__class__") Q E s := by
  obtain ⟨hh, g, d, t, os⟩ := s
  have L0 := I.type (M := model prog w)
  have L1 := PySem.W.looks_findIn (M := model prog w) X hga
  have L2 := PySem.W.looks_findIn (M := model prog w) X hno
  have L3 := PySem.W.looks_mroIn (M := model prog w) X hb
  have L4 := PySem.W.looks_find (M := model prog w) X I hf
  unfold getAttr? getAttrBy? getAttrBy
  refine wpAny_bind (wpAny_mkText (wpAny_bind (wpAny_attempt (wpAny_holding (wpAny_bind (L0.at (wpAny_bind (L1.at ?_))))))))
  show wpAny _ _ (getAttrByItsOwn _ _ _ _ _ _) _ _ _
  unfold getAttrByItsOwn
  refine wpAny_bind (show wpAny _ _ (typeLookup (.ref D) "__getattr__") _ _ _ from L2.at ?_)
  refine wpAny_bind (wpAny_attempt (wpAny_holding ?_))
  show wpAny _ _ (boundAndCalled _ _ _) _ _ _
  unfold boundAndCalled
  rw [PySem.F.excAttr_ValueError.ga.bind]
  refine wpAny_bind (wpAny_pure ?_)
  show wpAny _ _ (call (.builtin "BaseException.__getattribute__") [.ref x, .str "__class__" _]) _ _ _
  have hk : builtinKind "BaseException.__getattribute__" = some .slot := by decide +kernel
  have hsplit : splitId "BaseException.__getattribute__" = some ("BaseException", "__getattribute__") := by decide +kernel
  refine wpAny_call (codeAny_call_builtin PySem.F.excAttr_ValueError.ga.plain PySem.F.entry_bexc_ga ?_)
  have ha := PySem.F.args_bexc_ga (.ref x) (.str "__class__" t)
  simp only [checkBuiltinCall, hk, hsplit]
  refine wpAny_bind ?_
  unfold isInstance
  refine wpAny_bind (L0.at (L3.at ?_))
  rw [if_neg (by decide)]
  refine eq_pure ha ?_
  unfold Builtin.«object.__getattribute__»
  refine wpAny_bind ?_
  refine wpAny_pure ?_
  dsimp only
  refine wpAny_bind (wpAny_pure (wpAny_bind (L0.at (wpAny_bind (L4.at ?_)))))
  dsimp only
  show wpAny _ _ (holding [.builtin "object.__class__"] (call (.builtin "getset_descriptor.__get__") [.builtin "object.__class__", .ref x, .ref D]) >>= ret) _ _ _
  refine wpAny_bind (wpAny_holding (wpAny_call (PySem.W.class_get (s := ⟨hh, g, d, t + 1, os⟩) (ox := oe) (od := none) X I hm ?_)))
  refine wpAny_pure ?_
  exact PySem.W.handed_on rfl (wpAny_pure h)
structure XIs (K : PySem.W.Frag) (C : Addr) : Prop where
  hga : PySem.W.findIn K (.ref C) "__getattribute__" = some (some (.builtin "BaseException.__getattribute__"))
  hno : PySem.W.findIn K (.ref C) "__getattr__" = some none
  hb : PySem.W.mroIn K C (.type "BaseException") = some true
  hd : PySem.W.hasDictIn K C = true
  ha : PySem.W.findIn K (.ref C) "__class__" = some (some (.builtin "object.__class__"))
  hm : PySem.W.mroIn K C (.type "object") = some true
structure IsK (K : PySem.W.Frag) : Prop where
  hn : PySem.W.specialIn K (.builtin "object.__class__") "__get__" = some (some (.builtin "getset_descriptor.__get__"))
  htk : PySem.W.takesIn K (.builtin "object.__class__") = some true
inductive TyE (K : PySem.W.Frag) (H : Hp) : V → Value → Prop where
  | of {x : V} {t : Value} (h : TyOf K H x t) : TyE K H x t
  | exc {a C : Addr} (e : H a = some (exO a (.ref C) none)) (x : XIs K C) (k : IsK K) : TyE K H (.ref a) (.ref C)
def clsV : V → Value
  | .ref a => .ref a
  | .ty n => .type n
  | _ => .none
def isClsV : V → Bool
  | .ref _ => true
  | .ty _ => true
  | _ => false
theorem clsV_of {c : V} {u : Value} (h : isClsV c = true) (r : RelV c u) : u = clsV c := by
  cases c <;> first | exact r | exact absurd (show false = true from h) Bool.false_ne_true
theorem kitx_exc {K : PySem.W.Frag} {x D : Addr} (q : XIs K D) (k : IsK K) : PySem.W.KitX K (.ref x) (.ref D) (fun h => ∃ oe vs, h.get? x = some oe ∧ oe.cls = .ref D ∧ oe.dict = none ∧ oe.data = .fields vs) where
  ty := fun M h _ p => by
    obtain ⟨oe, vs, h1, h2, _⟩ := p
    exact h2 ▸ (PySem.W.Looks.ld h1).andThen .now
  it := fun _ _ X _ => by
    obtain ⟨cdD, hcD, _⟩ := PySem.W.any_some q.hd
    unfold PySem.W.clsIn at hcD
    split at hcD
    · next ho =>
      intro A' Q' E' s' k q
      unfold isType loadHead
      exact wpAny_bind (wpAny_loadPart (k _ _ (X _ _ ho)) (wpAny_pure q))
    · cases hcD
  ne := fun h tp dd its n sl X htp => by
    obtain ⟨cdD, hcD, _⟩ := PySem.W.any_some q.hd
    refine Bool.eq_false_iff.mpr fun z => ?_
    have e : D = tp := Value.ref.inj (beq_iff_eq.mp z)
    subst e
    unfold PySem.W.clsIn at hcD
    split at hcD
    · next ho =>
      have z := (X _ _ ho).symm.trans htp
      cases z
    · cases hcD
  ca := fun {prog w A E Q s} X p hq => by
    obtain ⟨oe, vs, h1, h2, h3, h4⟩ := p
    have I : PySem.W.InstAt s.heap x oe D none := ⟨h1, h2, by unfold PySem.W.notCls; rw [h4], by rw [h3]; trivial⟩
    have hf : PySem.W.findObj K D none "__class__" = some (.bind (.builtin "getset_descriptor.__get__") (.builtin "object.__class__")) := by
      obtain ⟨cd, hc, _⟩ := PySem.W.any_some q.hd
      unfold PySem.W.findObj
      rw [hc, Option.bind_some, q.ha, Option.bind_some]
      simp [k.hn, k.htk]
    exact exc_class X I q.hga q.hno q.hb q.hm hf hq
section
variable {X : Cx}
theorem tyE_kit {pins : List (Addr × Obj)} {σ : St} {H : Hp} {s : Shared} {x : V} {u t : Value} (I : Inv X pins σ H s) (rx : RelV x u) (ty : TyE X.K H x t) : ∃ P : Heap → Prop, PySem.W.KitX X.K u t P ∧ P s.heap ∧ u ≠ .builtin "__main__.__loader__#opaque" := by
  cases ty with
  | exc e q k =>
    cases rx
    exact ⟨_, kitx_exc q k, (I.hok _ _ e).1, fun z => nomatch z⟩
  | of h =>
    cases h with
    | non => cases (show u = Value.none from rx); exact ⟨_, PySem.W.kitx_none, trivial, fun z => nomatch z⟩
    | bl y => cases (show u = Value.bool y from rx); exact ⟨_, PySem.W.kitx_bool, trivial, fun z => nomatch z⟩
    | int i => obtain ⟨t, q⟩ := (show ∃ t, u = Value.int i t from rx); cases q; exact ⟨_, PySem.W.kitx_int, trivial, fun z => nomatch z⟩
    | str y => obtain ⟨t, q⟩ := (show ∃ t, u = Value.str y t from rx); cases q; exact ⟨_, PySem.W.kitx_str, trivial, fun z => nomatch z⟩
    | flt y => obtain ⟨t, q⟩ := (show ∃ t, u = Value.float y t from rx); cases q; exact ⟨_, PySem.W.kitx_float, trivial, fun z => nomatch z⟩
    | @lst a xs ea =>
      cases (show u = Value.ref a from rx)
      obtain ⟨_, _, n, _, h1⟩ := (show ObjOk X.prog X.w H s.heap a (.lst xs) from I.hok a _ ea)
      exact ⟨_, PySem.W.kitx_list, ⟨_, h1, rfl⟩, fun z => nomatch z⟩
    | @frz a ob xs ea =>
      cases (show u = Value.ref a from rx)
      obtain ⟨_, _, _, n, _, h1⟩ := (show ObjOk X.prog X.w H s.heap a (.frz ob (.lst xs)) from I.hok a _ ea)
      exact ⟨_, PySem.W.kitx_list, ⟨_, h1, rfl⟩, fun z => nomatch z⟩
    | @tup a xs ea =>
      cases (show u = Value.ref a from rx)
      obtain ⟨_, _, _, p⟩ := (show ObjOk X.prog X.w H s.heap a (.tup xs) from I.hok a _ ea)
      obtain ⟨o, h1, h2, _⟩ := p
      exact ⟨_, PySem.W.kitx_tuple, ⟨o, h1, h2⟩, fun z => nomatch z⟩
    | @dK a kvs ea =>
      cases (show u = Value.ref a from rx)
      obtain ⟨_, _, vs, _, p⟩ := (show ObjOk X.prog X.w H s.heap a (.dK kvs) from I.hok a _ ea)
      obtain ⟨o, es, ep, h1, h2, _⟩ := p
      exact ⟨_, PySem.W.kitx_dict, ⟨o, h1, h2.1⟩, fun z => nomatch z⟩
    | @dT a kvs ea =>
      cases (show u = Value.ref a from rx)
      obtain ⟨_, _, xs, _, o, es, ep, h1, h2, _⟩ := (show ObjOk X.prog X.w H s.heap a (.dT kvs) from I.hok a _ ea)
      exact ⟨_, PySem.W.kitx_dict, ⟨o, h1, h2.1⟩, fun z => nomatch z⟩
    | @ins a C dx fs ea cl ha hn htk hm =>
      cases (show u = Value.ref a from rx)
      obtain ⟨mA, O, _⟩ := ins_get I.hok ea
      obtain ⟨od, J, _⟩ := O.look
      exact ⟨_, PySem.W.kitx_own (cl.get _) cl.hd ha hn htk hm, J, fun z => nomatch z⟩
theorem call_isinst : CallR X (.builtin "isinstance") (fun xs H Q => ∃ x c t b, xs = [x, c] ∧ isClsV c = true ∧ TyE X.K H x t ∧ PySem.W.kitOne X.K t (clsV c) = some b ∧ Q (.bl b) H) := by
  intro pins s σ H xs us Q I r h
  obtain ⟨x, c, t, b, rfl, hc, ty, e, q⟩ := h
  obtain ⟨u, v, rfl, ru, rv⟩ := vals2 r
  have := clsV_of hc rv
  subst this
  obtain ⟨P, kx, p, ne⟩ := tyE_kit I ru ty
  exact PySem.W.kia_one kx I.kIn p e ne fun tk => ⟨.bl b, H, I.tok tk, rfl, q⟩
theorem vals_cls : ∀ {cs : List V} {us : List Value}, Vals cs us → cs.all isClsV = true → us = cs.map clsV
  | _, _, .nil, _ => rfl
  | _, _, .cons r1 r2, h => by
    rw [List.all_cons, Bool.and_eq_true] at h
    rw [List.map_cons, clsV_of h.1 r1, vals_cls r2 h.2]
theorem call_isinstT : CallR X (.builtin "isinstance") (fun xs H Q => ∃ x p cs t b, xs = [x, .ref p] ∧ H p = some (.tup cs) ∧ cs.all isClsV = true ∧ TyE X.K H x t ∧ PySem.W.kitAny X.K t (cs.map clsV) = some b ∧ Q (.bl b) H) := by
  intro pins s σ H xs us Q I r h
  obtain ⟨x, p, cs, t, b, rfl, hp, hc, ty, e, q⟩ := h
  obtain ⟨u, v, rfl, ru, rv⟩ := vals2 r
  cases rv
  obtain ⟨_, its, rvs, ⟨⟨ocls, od, odt, osl⟩, h1, h2, n, h3⟩⟩ := (show ObjOk X.prog X.w H s.heap p (.tup cs) from I.hok p _ hp)
  dsimp only at h2 h3
  subst h2
  subst h3
  have := vals_cls rvs hc
  subst this
  obtain ⟨P, kx, pp, ne⟩ := tyE_kit I ru ty
  exact PySem.W.kia_tup kx I.kIn pp h1 e ne fun tk => ⟨.bl b, H, I.tok tk, rfl, q⟩
end
end L2

set_option maxHeartbeats 4000000
namespace L2
open PySem
def closL (cells : List (Str × Addr)) : List (Str × NameKind) → List (Str × Addr) → List (Str × Addr)
  | [], acc => acc
  | (n, k) :: r, acc => closL cells r (if k == .free then (n, (cells.lookup n).getD 0) :: acc else acc)
def closF (env : Env) (x : Str × NameKind) (cs : List (Str × Addr)) : Sem (ForInStep (List (Str × Addr))) := match x with
  | (name, kind) => if (kind == .free) = true then do let a ← cellOf env name; pure (ForInStep.yield ((name, a) :: cs)) else pure (ForInStep.yield cs)
theorem closF_eq {env : Env} {n : Str} {k : NameKind} {cs : List (Str × Addr)} (h : k = .free → ∃ c, env.cells.lookup n = some c) :
    closF env (n, k) cs = pure (ForInStep.yield (if k == .free then (n, (env.cells.lookup n).getD 0) :: cs else cs)) := by
  unfold closF
  by_cases hk : (k == NameKind.free) = true
  · obtain ⟨c, hc⟩ := h (by simpa using hk)
    simp only [hk, if_true, cellOf, hc, pure_bind, Option.getD_some]
  · simp only [hk, if_false, Bool.false_eq_true]
theorem clos_eq {scope : Scope} {env : Env} (h : ∀ y ∈ scope.names, y.2 = .free → ∃ c, env.cells.lookup y.1 = some c) : closureFor scope env = pure (closL env.cells scope.names []) := by
  have key : ∀ (l : List (Str × NameKind)) (acc : List (Str × Addr)), (∀ y ∈ l, y.2 = .free → ∃ c, env.cells.lookup y.1 = some c) →
      forIn l acc (closF env) = (pure (closL env.cells l acc) : Sem (List (Str × Addr))) := by
    intro l
    induction l with
    | nil => intro acc _; rfl
    | cons p r ih =>
      obtain ⟨n, k⟩ := p
      intro acc hl
      rw [List.forIn_cons, closF_eq (fun z => hl (n, k) List.mem_cons_self z), pure_bind]
      exact ih _ fun y hy => hl y (List.mem_cons_of_mem _ hy)
  show (forIn scope.names [] (closF env) >>= fun cs => pure cs) = _
  rw [key scope.names [] h, pure_bind]
theorem closL_in {cells : List (Str × Addr)} {y : Str} {c : Addr} : ∀ {l : List (Str × NameKind)} {acc : List (Str × Addr)}, (∀ p ∈ l, p.2 = .free → ∃ c, cells.lookup p.1 = some c) → (acc.lookup y = some c → cells.lookup y = some c) →
    (closL cells l acc).lookup y = some c → cells.lookup y = some c
  | [], acc, _, ha, h => ha h
  | (n, k) :: r, acc, hl, ha, h => by
    refine closL_in (l := r) (fun p hp => hl p (List.mem_cons_of_mem _ hp)) ?_ h
    by_cases hk : (k == NameKind.free) = true
    · rw [if_pos hk, List.lookup_cons]
      obtain ⟨d, hd⟩ := hl (n, k) List.mem_cons_self (by simpa using hk)
      have hd' : cells.lookup n = some d := hd
      cases e : y == n with
      | true =>
        have : y = n := beq_iff_eq.mp e
        subst this
        intro q
        rw [hd'] at q ⊢
        exact q
      | false => exact ha
    · rw [if_neg hk]; exact ha
theorem closL_acc {cells : List (Str × Addr)} {y : Str} : ∀ {l : List (Str × NameKind)} {acc : List (Str × Addr)}, (∃ c, acc.lookup y = some c) → ∃ c, (closL cells l acc).lookup y = some c
  | [], _, h => h
  | (n, k) :: r, acc, h => by
    refine closL_acc (l := r) ?_
    by_cases hk : (k == NameKind.free) = true
    · rw [if_pos hk, List.lookup_cons]
      cases e : y == n with
      | true => exact ⟨_, rfl⟩
      | false => exact h
    · rw [if_neg hk]; exact h
theorem closL_has {cells : List (Str × Addr)} {y : Str} : ∀ {l : List (Str × NameKind)} {acc : List (Str × Addr)}, (y, NameKind.free) ∈ l → ∃ c, (closL cells l acc).lookup y = some c
  | [], _, h => nomatch h
  | (n, k) :: r, acc, h => by
    rcases List.mem_cons.mp h with q | q
    · cases q
      refine closL_acc (l := r) ?_
      rw [if_pos (by rfl), List.lookup_cons]
      simp
    · exact closL_has (l := r) q
section
variable {prog : Program} {w : World} {A : Around} {R : Result → Shared → Prop} {s : Shared}
theorem comp_loop {elt target iter : Expr} {ifs : List Expr} {scope : Scope} {pos : Pos} {it acc : Value} {env : Env} (I : Nat → Shared → Prop)
    (turn : ∀ n s, I n s → wpAny (model prog w) A (pyNext it) (fun r s₁ => match r with
      | none => R (.ok .next) s₁
      | some v => wpAny (model prog w) A (letOwnedTupleGo target it v) (fun _ s₂ => wpAny (model prog w) A (assign target env v) (fun _ s₃ =>
          wpAny (model prog w) A (forIn ifs true fun c r => if r = true then do let ok ← isTrue c env (eval c env); pure (ForInStep.yield ok) else pure (ForInStep.yield r)) (fun ok s₄ =>
            if ok = true then wpAny (model prog w) A (eval elt env) (fun x s₅ => wpAny (model prog w) A (call (.builtin "list.append") [acc, x]) (fun _ s₆ => ∃ m, m < n ∧ I m s₆) (fun _ _ => False) s₅) (fun _ _ => False) s₄
            else ∃ m, m < n ∧ I m s₄) (fun _ _ => False) s₃) (fun _ _ => False) s₂) (fun _ _ => False) s₁) (fun _ _ => False) s)
    (n : Nat) (h : I n s) : codeAny (model prog w) A (.compLoop (.ListComp elt [⟨target, iter, ifs, 0⟩] scope pos) 0 it acc env) R s := by
  refine codeAny_loop rfl I (fun n s hI => ?_) n h
  show wpAny _ A ((compTurn (.ListComp elt [⟨target, iter, ifs, 0⟩] scope pos) 0 it acc env).onRaise (fun x => do noteFrame x env; theTreesLotGoes x)) _ _ s
  refine wpAny_noted ?_
  rw [compTurn_list]
  have no : ∀ {α : Type} {t : Sem α} {Q : α → Shared → Prop} {E : Value → Shared → Prop} {s : Shared}, wpAny (model prog w) A t Q (fun _ _ => False) s → wpAny (model prog w) A t Q E s := fun {α t Q E s} z => wpAny_mono z (fun _ _ q => q) fun _ _ q => q.elim
  refine wpAny_bind (wpAny_standAt (wpAny_bind (no (wpAny_mono (turn n s hI) (fun r s₁ h₁ => ?_) fun _ _ z => z))))
  cases r with
  | none => exact wpAny_pure h₁
  | some v =>
    refine wpAny_bind (no (wpAny_mono h₁ (fun _ s₂ h₂ => ?_) fun _ _ z => z))
    refine wpAny_bind (no (wpAny_mono h₂ (fun _ s₃ h₃ => ?_) fun _ _ z => z))
    refine wpAny_bind (no (wpAny_mono h₃ (fun ok s₄ h₄ => ?_) fun _ _ z => z))
    cases ok with
    | false => exact wpAny_pure ⟨rfl, h₄⟩
    | true => exact wpAny_bind (wpAny_bind (no (wpAny_mono h₄ (fun x s₅ h₅ => wpAny_bind (no (wpAny_mono h₅ (fun _ s₆ h₆ => wpAny_pure (wpAny_pure ⟨rfl, h₆⟩)) fun _ _ z => z))) fun _ _ z => z)))
end
end L2

set_option maxHeartbeats 4000000
namespace L2
open PySem PySem.Spec PyProof.Rows
theorem relabel_look {scope : Scope} {env : Env} {y : Str} : (relabel scope env).names.lookup y = (scope.names.lookup y).map fun k => if (k == .free && env.scope.kind == .function && env.kindOf y == some .cell) then NameKind.cell else k := by
  unfold relabel
  show (scope.names.map _).lookup y = _
  generalize scope.names = l
  induction l with
  | nil => rfl
  | cons p r ih =>
    obtain ⟨n, k⟩ := p
    rw [List.map_cons]
    cases e : y == n with
    | true =>
      have : y = n := beq_iff_eq.mp e
      subst this
      by_cases h : (k == NameKind.free && env.scope.kind == .function && env.kindOf y == some .cell) = true
      · simp only [h, if_true, List.lookup_cons, beq_self_eq_true, Option.map_some]
      · simp only [h, if_false, List.lookup_cons, beq_self_eq_true, Option.map_some, Bool.false_eq_true]
    | false =>
      by_cases h : (k == NameKind.free && env.scope.kind == .function && env.kindOf n == some .cell) = true
      · simp only [h, if_true, List.lookup_cons, e]; exact ih
      · simp only [h, if_false, List.lookup_cons, e, Bool.false_eq_true]; exact ih
theorem mem_of_look {l : List (Str × NameKind)} {y : Str} {k : NameKind} (h : l.lookup y = some k) : (y, k) ∈ l := PySem.mem_of_lookup h
structure CompOk (scope fsc : Scope) (xs N' N : List Str) : Prop where
  kind : scope.kind = .function
  own : ∀ y ∈ scope.names, y.2 = .local → scope.names.lookup y.1 = some .local
  nocell : (scope.names.all fun y => y.2 != .cell) = true
  frees : (scope.names.all fun y => y.2 != .free || fsc.names.lookup y.1 == some .cell || fsc.names.lookup y.1 == some .free) = true
  mask : (N'.all fun y => scope.names.lookup y != some .local) = true
  same : ((N'.zip N).all fun p => p.1 == p.2 || scope.names.lookup p.1 == none) = true
  len : N'.length = N.length
def cxComp (X : Cx) (scope : Scope) (NN : List Str) (C : Addr) (s : Shared) (H : Hp) (pins : List (Addr × Obj)) (fp : List Addr) : Cx :=
  { X with N := NN, s₀ := s, H₀ := H, env := compEnvC scope (closL X.env.cells scope.names []) C X.env, outer := X.stack, stack := X.stack, ex := fp, fn := fun _ => false, pn := X.pn ++ pins, xe := fun _ _ => False }
section
variable {X : Cx} {pins : List (Addr × Obj)} {σ : St} {H : Hp} {s : Shared} {scope : Scope} {xs N' : List Str} {fp : List Addr}
theorem CompOk.free {fsc : Scope} {N : List Str} {y : Str} (c : CompOk scope fsc xs N' N) (h : scope.names.lookup y = some .free) : fsc.names.lookup y = some .cell ∨ fsc.names.lookup y = some .free := by
  have := List.all_eq_true.mp c.frees _ (mem_of_look h)
  simp at this
  exact this
theorem CompOk.vis {fsc : Scope} {N : List Str} {y : Str} {env : Env} (c : CompOk scope fsc xs N' N) (h : (relabel scope env).names.lookup y = some .cell ∨ (relabel scope env).names.lookup y = some .free) : scope.names.lookup y = some .free := by
  rw [relabel_look] at h
  cases e : scope.names.lookup y with
  | none => rw [e] at h; simp at h
  | some k =>
    have nc := List.all_eq_true.mp c.nocell _ (mem_of_look e)
    rw [e] at h
    cases k <;> simp at nc h ⊢
theorem relabel_loc {env : Env} {y : Str} (h : (relabel scope env).names.lookup y = some .local) : scope.names.lookup y = some .local := by
  rw [relabel_look] at h
  cases e : scope.names.lookup y with
  | none => rw [e] at h; simp at h
  | some k =>
    rw [e] at h
    simp only [Option.map_some, Option.some.injEq] at h
    split at h
    · cases h
    · rw [h]
theorem comp_start (I : Inv X pins σ H s) (cok : CompOk scope X.env.scope xs N' X.N) (hfp : ∀ b ∈ fp, FpOk X pins H b) (hfo : ∀ b ∈ fp, ∃ o, s.heap.get? b = some o) {h1 : Heap} {tk : Nat} (hn : h1.Ns s.heap.objs.size fun _ => none)
    (keep : ∀ b o, s.heap.get? b = some o → h1.get? b = some o) : Inv (cxComp X scope (xs ++ N') s.heap.objs.size s H pins fp) [] (List.replicate xs.length none ++ σ) H { s with heap := h1, toks := tk } := by
  have has : ∀ y, scope.names.lookup y = some .free → ∃ c, X.env.cells.lookup y = some c := fun y h => I.ok.has y (cok.free h)
  have cells : ∀ y c, (closL X.env.cells scope.names []).lookup y = some c → X.env.cells.lookup y = some c := fun y c h => by
    refine closL_in (l := scope.names) (acc := []) (fun p hp hk => ?_) (fun z => nomatch z) h
    have : X.env.scope.names.lookup p.1 = some .cell ∨ X.env.scope.names.lookup p.1 = some .free := by
      have := List.all_eq_true.mp cok.frees p hp
      simp [hk] at this
      exact this
    exact I.ok.has p.1 this
  have clt : ∀ y c, X.env.cells.lookup y = some c → c < s.heap.objs.size := fun y c h => by
    obtain ⟨v, q⟩ := I.cell y c h
    exact q.lt
  have sLs : ∀ b ∈ fp, b ∉ frs X.stack := fun b hb z => by
    rcases List.mem_cons.mp (I.stkSub b z) with q | q
    · exact (hfp b hb).2.1 q
    · exact (hfp b hb).2.2.1 q
  have cellK : ∀ c v, s.heap.IsCell c v → h1.IsCell c v := fun c v ⟨o, ho, hd⟩ => ⟨o, keep c o ho, hd⟩
  refine ⟨⟨I.ok.mod, ?_, I.ok.glob, I.ok.blt, Nat.le_refl _, fun y z c h1 h2 => I.ok.inj y z c (cells y c h1) (cells z c h2), fun y h => ?_, fun _ _ z => (nomatch z), I.ok.hd, I.ok.frames, .inl rfl, fun b hb => ⟨?_, fun y c h => ?_⟩, I.bs, Nat.le_trans I.ok.bsz I.sz, fun b o e hb => ?_, sLs, I.stack, I.stkFree⟩,
    rfl, I.bare, Un.kept keep, ⟨_, hn, fun i y v e1 e2 e3 => ?_⟩, fun y c h => ?_, I.hok.fresh (Nat.le_refl _), fun y c h => I.freeC y c (cells y c h), fun p hp => ?_, I.hok.kept keep, ?_⟩
  · show scope.kind = _; exact cok.kind
  · exact closL_has (mem_of_look (cok.vis h))
  · obtain ⟨o, e⟩ := hfo b hb
    exact Nat.ne_of_lt (Heap.lt_size e)
  · exact (hfp b hb).2.2.2.2.1 y c (cells y c h)
  · rcases (hfp b hb).2.2.2.1 with z | z
    · exact I.ok.noex b o e z
    · exact absurd (Nat.lt_of_lt_of_le (Heap.lt_size (I.ok.bs b o e).1) z) (Nat.lt_irrefl _)
  · have hi : xs.length ≤ i := by
      refine Nat.le_of_not_lt fun z => ?_
      rw [List.getElem?_append_left (by rw [List.length_replicate]; exact z), List.getElem?_replicate] at e2
      split at e2 <;> simp at e2
    have e1' : N'[i - xs.length]? = some y := by
      have e1 : (xs ++ N')[i]? = some y := e1
      rwa [List.getElem?_append_right hi] at e1
    have e2' : σ[i - xs.length]? = some (some v) := by
      rw [List.getElem?_append_right (by rw [List.length_replicate]; exact hi), List.length_replicate] at e2
      exact e2
    have mem := List.mem_of_getElem? e1'
    have hk : (relabel scope X.env).names.lookup y = some .cell ∨ (relabel scope X.env).names.lookup y = some .free := by
      rcases e3 with z | z
      · have := List.all_eq_true.mp cok.mask y mem
        rw [relabel_loc z] at this
        simp at this
      · exact z
    have hf := cok.vis hk
    have hx : X.N[i - xs.length]? = some y := by
      have hl : i - xs.length < X.N.length := by rw [← cok.len]; exact (List.getElem?_eq_some_iff.mp e1').1
      have hz : (N'.zip X.N)[i - xs.length]? = some (y, X.N[i - xs.length]) := by
        rw [List.getElem?_zip_eq_some]
        exact ⟨e1', List.getElem?_eq_getElem hl⟩
      have := List.all_eq_true.mp cok.same _ (List.mem_of_getElem? hz)
      simp [hf] at this
      rw [List.getElem?_eq_getElem hl, ← this]
    obtain ⟨m, hm, hl⟩ := I.loc
    have hv : Vis X.env.scope y := .inr (cok.free hf)
    obtain ⟨u, r, l⟩ := hl _ y v hx e2' hv
    refine ⟨u, r, .inr ⟨hk, ?_⟩⟩
    rcases l with ⟨k, _⟩ | ⟨_, c, hc, hcell⟩
    · rcases cok.free hf with z | z
      · rw [show X.env.scope.names.lookup y = some .local from k] at z; cases z
      · rw [show X.env.scope.names.lookup y = some .local from k] at z; cases z
    · obtain ⟨c', hc'⟩ := closL_has (cells := X.env.cells) (acc := []) (mem_of_look hf)
      have : c = c' := by
        have := cells y c' hc'
        rw [hc] at this
        exact Option.some.inj this
      subst this
      exact ⟨c, hc', cellK c _ hcell⟩
  · obtain ⟨v, q⟩ := I.cell y c (cells y c h)
    exact ⟨v, cellK c v q⟩
  · have hp' : p ∈ X.pn ++ pins := by simpa [cxComp] using hp
    obtain ⟨e, n, ne, nf, d⟩ := I.pin p hp'
    refine ⟨keep p.1 p.2 e, n, Nat.ne_of_lt (Heap.lt_size e), fun z => ?_, d⟩
    rcases List.mem_cons.mp (I.stkSub p.1 z) with q | q
    · exact ne q
    · exact nf q
  · show (List.replicate xs.length none ++ σ).length = (xs ++ N').length
    rw [List.length_append, List.length_append, List.length_replicate, I.len, cok.len]
def tTrue : TT := fun _ H Q => Q true H
def PTs (X : Cx) (ifs : List Expr) (t : TT) : Prop :=
  ∀ (pins : List (Addr × Obj)) (s : Shared) (σ : St) (H : Hp) (Q : Bool → Hp → Prop), Inv X pins σ H s → t σ H Q →
    wpAny (model X.prog X.w) X.A (forIn ifs true fun c r => if r = true then do let ok ← isTrue c X.env (eval c X.env); pure (ForInStep.yield ok) else pure (ForInStep.yield r)) (TP X pins σ Q) X.xe s
theorem pts_nil : PTs X [] tTrue := fun _ _ _ H _ I h => wpAny_tests_nil ⟨H, I, h⟩
def tComp (k : Nat) (wi : TI) (g : TG) (tc : TT) (te : TE) : TE := fun σ H Q => wi σ H fun J H1 => ∀ acc, H1 acc = none → ∃ (W : Nat → List V → Hp → Prop) (n : Nat), W 0 [] (upd H1 acc (.lst [])) ∧
  ∀ i ys H2, W i ys H2 → H2 acc = some (.lst ys) ∧ ys.length < sizeLine ∧ ((i = n ∧ J.stop i H2 ∧ Q (.ref acc) H2) ∨ (i < n ∧ J.go i H2 ∧ ∀ x H3, J.yld i H2 x H3 → ∀ τ : St, τ.length = k → g x (τ ++ σ) H3 fun τ2 H4 =>
    (∃ τ' : St, τ'.length = k ∧ τ2 = τ' ++ σ) ∧ tc τ2 H4 fun b H5 => if b = true then te τ2 H5 fun v H6 => H6 acc = some (.lst ys) ∧ W (i + 1) (ys ++ [v]) (upd H6 acc (.lst (ys ++ [v]))) else W (i + 1) ys H5))
theorem comp_back (I : Inv X pins σ H s) (hfp : ∀ b ∈ fp, FpOk X pins H b) {NN : List Str} {pins' : List (Addr × Obj)} {τ : St} {H' : Hp} {s' : Shared} (J : Inv (cxComp X scope NN s.heap.objs.size s H pins fp) pins' τ H' s') : Inv X pins σ H' s' :=
  I.call' (ch := fp) (J.os.trans rfl) J.base J.hok J.bare fun b hb => ⟨(hfp b hb).2.2.2.1, (hfp b hb).2.1, (hfp b hb).2.2.2.2.1, (hfp b hb).2.2.2.2.2⟩
end
end L2

set_option maxHeartbeats 4000000
namespace L2
open PySem PySem.Spec PyProof.Rows
section
variable {X : Cx} {scope : Scope} {xs N' : List Str} {target iter elt : Expr} {ifs : List Expr} {pos : Pos} {wi : TI} {g : TG} {tc : TT} {te : TE}
theorem comp_block (hc : X.calm = true) (cok : CompOk scope X.env.scope xs N' X.N) (hi : PI X target iter wi)
    (hg : ∀ C s H pins fp, PG (cxComp X scope (xs ++ N') C s H pins fp) target g) (ht : ∀ C s H pins fp, PTs (cxComp X scope (xs ++ N') C s H pins fp) ifs tc) (he : ∀ C s H pins fp, PE (cxComp X scope (xs ++ N') C s H pins fp) elt te)
    {pins : List (Addr × Obj)} {s : Shared} {σ : St} {H : Hp} {Q : VK} {RR : Value → Addr → Result → Shared → Prop} (I : Inv X pins σ H s) (h : tComp xs.length wi g tc te σ H Q)
    (hRR : ∀ a C m H' s', Inv X pins σ H' s' → FpOk X pins H' C → s'.heap.Ns C m → Q (.ref a) H' → RR (.ref a) C (.ok .next) s') :
    wpAny (model X.prog X.w) X.A (eval iter X.env) (fun x s₁ => wpAny (model X.prog X.w) X.A (pyIter x) (fun it s₂ => wpAny (model X.prog X.w) X.A (newList []) (fun acc s₃ =>
      wpAny (model X.prog X.w) X.A (newFunctionEnv scope X.env.globals (closL X.env.cells scope.names []) [] X.env.qual none .none (some X.env)) (fun cenv s₄ =>
        codeAny (model X.prog X.w) X.A (.compStart (.ListComp elt [⟨target, iter, ifs, 0⟩] scope pos) 0 it acc { cenv with scope := relabel scope X.env }) (RR acc cenv.locals) s₄) X.xe s₃) X.xe s₂) X.xe s₁) X.xe s := by
  refine thn (hi pins s σ H _ I h) fun v s1 h1 => thn h1 fun itv s2 h2 => ?_
  obtain ⟨it, fp, tn, J, H2, e, I2, T, st2, f2, h3⟩ := h2
  subst e
  have ob2 : ∀ b ∈ fp, ∃ o, s2.heap.get? b = some o := fun b hb => let ⟨o, q, _⟩ := T.obj _ _ st2 b hb; ⟨o, q⟩
  have fresh2 : H2 s2.heap.objs.size = none := I2.fresh
  have I3 := I2.lnew (its := []) (ys := []) (t' := s2.toks) .nil (Nat.zero_le _)
  refine wpAny_newObj_type (T := "list") ?_
  obtain ⟨W, n, w0, turn⟩ := h3 s2.heap.objs.size fresh2
  generalize hs3 : ({ s2 with heap := s2.heap.push { cls := .type "list", data := .seq ([] : List Value).toArray }, toks := s2.toks } : Shared) = s3 at I3
  have sub3 : ∀ b o, s2.heap.get? b = some o → s3.heap.get? b = some o := fun b o q => by rw [← hs3]; exact Heap.get?_push_of_some _ q
  have f3 : ∀ b ∈ fp, FpOk X pins (upd H2 s2.heap.objs.size (.lst [])) b := fun b hb => by
    obtain ⟨o, q⟩ := ob2 b hb
    obtain ⟨q0, q1⟩ := f2 b hb
    exact ⟨by rw [upd_ne (Nat.ne_of_lt (Heap.lt_size q))]; exact q0, q1⟩
  have ob3 : ∀ b ∈ fp, ∃ o, s3.heap.get? b = some o := fun b hb => let ⟨o, q⟩ := ob2 b hb; ⟨o, sub3 b o q⟩
  have st3 : tn 0 s3.heap := T.keep _ _ _ st2 fun b _ o q => sub3 b o q
  refine wpAny_newFunctionEnv (fun y hy z => ?_) (fun y hy => nomatch hy) (fun h4 hns hsb => ?_) cok.kind
  · have := List.all_eq_true.mp cok.nocell y hy
    rw [z] at this
    simp at this
  have keep4 : ∀ b o, s3.heap.get? b = some o → h4.get? b = some o := fun b o q => (hsb.2 b (Nat.ne_of_lt (Heap.lt_size q))).trans (Heap.get?_push_of_some _ q)
  have J4 := comp_start (tk := s3.toks + ([] : List (Str × Value)).length) I3 cok f3 ob3 hns keep4
  have st4 : tn 0 h4 := T.keep _ _ _ st3 fun b _ o q => keep4 b o q
  generalize hY : cxComp X scope (xs ++ N') s3.heap.objs.size s3 (upd H2 s2.heap.objs.size (.lst [])) pins fp = Y at J4
  have hP : Y.prog = X.prog := by rw [← hY]; rfl
  have hw : Y.w = X.w := by rw [← hY]; rfl
  have hK : Y.K = X.K := by rw [← hY]; rfl
  have hcY : Y.calm = true := by rw [← hY]; exact hc
  have stat : ∀ {H' : Hp}, (∀ b ∈ fp, H' b = none) → ∀ b ∈ fp, FpOk Y [] H' b := fun {H'} hn b hb => by
    obtain ⟨o, q⟩ := ob3 b hb
    rw [← hY]
    refine ⟨hn b hb, Nat.ne_of_lt (Heap.lt_size q), fun z => ?_, .inl hb, fun y c hy => ?_, fun p hp => ?_⟩
    · rcases List.mem_cons.mp (I3.stkSub b z) with w | w
      · exact (f3 b hb).2.1 w
      · exact (f3 b hb).2.2.1 w
    · have hx := J4.ok.exf b (by rw [← hY]; exact hb)
      rw [← hY] at hx
      exact hx.2 y c hy
    · have hp' : p ∈ X.pn ++ pins := by simpa [cxComp] using hp
      exact (f3 b hb).2.2.2.2.2 p hp'
  have loop : ∀ s5 : Shared, Inv Y [] (List.replicate xs.length none ++ σ) (upd H2 s2.heap.objs.size (.lst [])) s5 → tn 0 s5.heap →
      codeAny (model X.prog X.w) X.A (.compLoop (.ListComp elt [⟨target, iter, ifs, 0⟩] scope pos) 0 (.ref it) (.ref s2.heap.objs.size) Y.env) (RR (.ref s2.heap.objs.size) s3.heap.objs.size) s5 := by
    intro s5 J5 st5
    refine comp_loop (fun k s' => ∃ (i : Nat) (ys : List V) (H' : Hp) (τ : St), k + i = n ∧ τ.length = xs.length ∧ Inv Y [] (τ ++ σ) H' s' ∧ tn i s'.heap ∧ (∀ b ∈ fp, H' b = none) ∧ W i ys H') ?_ n
      ⟨0, [], _, List.replicate xs.length none, rfl, List.length_replicate .., J5, st5, fun b hb => (f3 b hb).1, w0⟩
    rintro k s6 ⟨i, ys, H6, τ, hk, hτ, J6, st6, fr6, w6⟩
    obtain ⟨hacc, hlen, hcase⟩ := turn i ys H6 w6
    rcases hcase with ⟨hin, stop, hq⟩ | ⟨hin, go, step⟩
    · refine thn (A := X.A) (by have := T.done Y hP hw hK hcY i [] s6 (τ ++ σ) H6 (fun _ _ => False) J6 (stat fr6) st6 stop; rw [← hY] at this; exact this) fun r s7 q7 => ?_
      obtain ⟨hr, J7⟩ := q7
      subst hr
      rw [hY] at J7
      obtain ⟨m7, hn7, _⟩ := J7.loc
      have e1 : Y.env.locals = s3.heap.objs.size := by rw [← hY]; rfl
      rw [e1] at hn7
      have J7' : Inv X pins σ H6 s7 := comp_back I3 f3 (by rw [hY]; exact J7)
      refine hRR _ _ m7 H6 s7 J7' ?_ hn7 hq
      have e2 := J7.free
      rw [e1] at e2
      exact I3.fpOk (Nat.le_refl _) e2
    · refine thn (A := X.A) (by have := T.item Y hP hw hK hcY i [] s6 (τ ++ σ) H6 (fun _ _ => False) J6 (stat fr6) st6 go; rw [← hY] at this; exact this) fun r s7 q7 => ?_
      obtain ⟨u, hr, q7⟩ := q7
      subst hr
      have hA : Y.A = X.A := by rw [← hY]; rfl
      rw [hY] at q7
      rw [hA] at q7
      refine thn q7 fun _ s8 q8 => ?_
      obtain ⟨x8, H8, J8, r8, y8, st8, fr8⟩ := q8
      have J8' := J8.pinned (stat fr8) (T.obj _ _ st8)
      have g8 := hg s3.heap.objs.size s3 (upd H2 s2.heap.objs.size (.lst [])) pins fp
      have t8 := ht s3.heap.objs.size s3 (upd H2 s2.heap.objs.size (.lst [])) pins fp
      have e8 := he s3.heap.objs.size s3 (upd H2 s2.heap.objs.size (.lst [])) pins fp
      have a8 : ∀ {Z : Cx}, Z = Y → MtM Z "list.append" rAppend := fun {Z} _ => mt_append
      have hxe : Y.xe = fun _ _ => False := by rw [← hY]; rfl
      rw [hY] at g8 t8 e8
      have back : ∀ {τ2 : St} {H9 : Hp} {s9 : Shared}, Inv Y ([] ++ pinsAt fp s8.heap) τ2 H9 s9 → Inv Y [] τ2 H9 s9 ∧ tn (i + 1) s9.heap ∧ ∀ b ∈ fp, H9 b = none := fun {τ2 H9 s9} J9 => by
        refine ⟨J9.unpinned, T.keep _ _ _ st8 fun b hb o q => (J9.pin (b, o) (List.mem_append_right _ (List.mem_append_right _ (mem_pinsAt hb q)))).1, fun b hb => ?_⟩
        obtain ⟨o, q, d⟩ := T.obj _ _ st8 b hb
        exact (J9.pin (b, o) (List.mem_append_right _ (List.mem_append_right _ (mem_pinsAt hb q)))).2.1
      have z1 := g8 _ s8 (τ ++ σ) H8 x8 u _ J8' r8 (step x8 H8 y8 τ hτ)
      rw [hP, hw, hA, hxe] at z1
      refine thn z1 fun _ s9 q9 => ?_
      obtain ⟨τ9, H9, J9, ⟨τ', hτ', e9⟩, q9⟩ := q9
      subst e9
      have z2 := t8 _ s9 (τ' ++ σ) H9 _ J9 q9
      rw [hP, hw, hA, hxe] at z2
      refine thn z2 fun b s10 q10 => ?_
      obtain ⟨H10, J10, q10⟩ := q10
      cases b with
      | false =>
        rw [if_neg Bool.false_ne_true] at q10 ⊢
        obtain ⟨b1, b2, b3⟩ := back J10
        exact ⟨k - 1, by omega, i + 1, ys, H10, τ', by omega, hτ', b1, b2, b3, q10⟩
      | true =>
        rw [if_pos rfl] at q10 ⊢
        have z3 := e8 _ s10 (τ' ++ σ) H10 _ J10 q10
        rw [hP, hw, hA, hxe] at z3
        refine thn z3 fun y s11 q11 => ?_
        obtain ⟨v11, H11, J11, r11, hacc11, w11⟩ := q11
        have z4 := a8 rfl _ s11 (τ' ++ σ) H11 (.ref s2.heap.objs.size) [v11] (.ref s2.heap.objs.size) [y] (fun _ H' => W (i + 1) (ys ++ [v11]) H') J11 rfl (.cons r11 .nil) ⟨_, ys, v11, rfl, rfl, hacc11, hlen, w11⟩
        rw [hP, hw, hA, hxe] at z4
        refine thn z4 fun _ s12 q12 => ?_
        obtain ⟨_, H12, J12, _, w12⟩ := q12
        obtain ⟨b1, b2, b3⟩ := back J12
        exact ⟨k - 1, by omega, i + 1, ys ++ [v11], H12, τ', by omega, hτ', b1, b2, b3, w12⟩
  have env4 : ({ newEnv scope s3.heap.objs.size X.env.globals (closL X.env.cells scope.names []) X.env.qual none .none (some X.env) X.env.builtins with scope := relabel scope X.env } : Env) = Y.env := by rw [← hY]; rfl
  have l4 := loop _ J4 st4
  rw [← env4] at l4
  exact codeAny_compStart_list l4 (T.self _ 0 _ _ _ st4 l4)
theorem clos_of {pins : List (Addr × Obj)} {s : Shared} {σ : St} {H : Hp} (I : Inv X pins σ H s) (cok : CompOk scope X.env.scope xs N' X.N) : closureFor scope X.env = pure (closL X.env.cells scope.names []) := by
  refine clos_eq fun p hp hk => ?_
  have : X.env.scope.names.lookup p.1 = some .cell ∨ X.env.scope.names.lookup p.1 = some .free := by
    have := List.all_eq_true.mp cok.frees p hp
    simp [hk] at this
    exact this
  exact I.ok.has p.1 this
theorem pe_comp (hc : X.calm = true) (cok : CompOk scope X.env.scope xs N' X.N) (hi : PI X target iter wi)
    (hg : ∀ C s H pins fp, PG (cxComp X scope (xs ++ N') C s H pins fp) target g) (ht : ∀ C s H pins fp, PTs (cxComp X scope (xs ++ N') C s H pins fp) ifs tc) (he : ∀ C s H pins fp, PE (cxComp X scope (xs ++ N') C s H pins fp) elt te)
    (hs : ∀ x, foldedSetIterable iter X.env x = pure x := by intro _; rfl) : PE X (.ListComp elt [⟨target, iter, ifs, 0⟩] scope pos) (tComp xs.length wi g tc te) := by
  intro pins s σ H Q I h
  rw [eval_ListComp]
  refine wpAny_comprehension_free (use := none) rfl hs (clos_of I cok) cok.kind cok.own (comp_block hc cok hi hg ht he I h fun a C m H' s' J fC hn q => ⟨m, hn, fun h' hs' => ?_⟩)
  obtain ⟨f0, f1, f2, f3, f4, f5⟩ := fC
  exact ⟨.ref a, H', J.turned (t' := s'.toks) (fun b o hb e => (hs'.2 b hb).trans e) f0 f1 f3 f4 f5, rfl, q⟩
end
end L2

set_option maxHeartbeats 4000000
namespace L2
open PySem PySem.Spec PyProof.Rows
def RawF (K : PySem.W.Frag) (mg : Str → Option Value) (x : Str) (st : Stmt) (ps : List Str) (dvs : List V) : Prop :=
  ∃ (f : Addr) (oc : Value) (od : Option Addr) (dV kV doc pm : Value) (an : Option Addr) (cdv ct : Value) (osl : Array (Option Value)) (ds : List Value),
    K.lookup f = some ⟨oc, od, .func (PySem.W.fnOf x x (defArgs st) (defBody st) (defScope st) dV kV doc pm an cdv ct), osl⟩ ∧ PySem.W.codeIn K cdv x = true ∧ PySem.W.keepIn K (.ref f) = true ∧
    mg x = some (.ref f) ∧ Binds K (PySem.W.fnOf x x (defArgs st) (defBody st) (defScope st) dV kV doc pm an cdv ct) ps ds ∧ Vals dvs ds
def RawM (K : PySem.W.Frag) (C : Addr) (m qual : Str) (st : Stmt) (ps : List Str) (dvs : List V) : Prop :=
  ∃ (f : Addr) (oc : Value) (od : Option Addr) (dV kV doc pm : Value) (an : Option Addr) (cdv ct : Value) (osl : Array (Option Value)) (ds : List Value),
    K.lookup f = some ⟨oc, od, .func (PySem.W.fnOf m qual (defArgs st) (defBody st) (defScope st) dV kV doc pm an cdv ct), osl⟩ ∧ PySem.W.codeIn K cdv qual = true ∧ Meth K C m f ∧
    Binds K (PySem.W.fnOf m qual (defArgs st) (defBody st) (defScope st) dV kV doc pm an cdv ct) ps ds ∧ Vals dvs ds
def RawI (K : PySem.W.Frag) (C : Addr) (qual : Str) (st : Stmt) (ps : List Str) (dvs : List V) : Prop :=
  ∃ (f : Addr) (oc : Value) (od : Option Addr) (dV kV doc pm : Value) (an : Option Addr) (cdv ct : Value) (osl : Array (Option Value)) (ds : List Value),
    K.lookup f = some ⟨oc, od, .func (PySem.W.fnOf "__init__" qual (defArgs st) (defBody st) (defScope st) dV kV doc pm an cdv ct), osl⟩ ∧ PySem.W.codeIn K cdv qual = true ∧ Mk K C f ∧
    Binds K (PySem.W.fnOf "__init__" qual (defArgs st) (defBody st) (defScope st) dV kV doc pm an cdv ct) ps ds ∧ Vals dvs ds
def HasFn (P : Program) (w : World) (K : PySem.W.Frag) (mg : Str → Option Value) (base : Heap) (k : Nat) (x : Str) (ps : List Str) (sp : Sp) (dvs : List V) : Prop :=
  ∃ f fd ds, FnOk P w K mg base (CXE P w) k f fd ps sp ∧ mg x = some (.ref f) ∧ PySem.W.keepIn K (.ref f) = true ∧ Binds K fd ps ds ∧ Vals dvs ds
def HasMe (P : Program) (w : World) (K : PySem.W.Frag) (mg : Str → Option Value) (base : Heap) (C : Addr) (k : Nat) (m : Str) (ps : List Str) (sp : Sp) (dvs : List V) : Prop :=
  ∃ f fd ds, FnOk P w K mg base (CXE P w) k f fd ps sp ∧ Meth K C m f ∧ Binds K fd ps ds ∧ Vals dvs ds
def HasMk (P : Program) (w : World) (K : PySem.W.Frag) (mg : Str → Option Value) (base : Heap) (C : Addr) (k : Nat) (ps : List Str) (sp : Sp) (dvs : List V) : Prop :=
  ∃ f fd ds, FnOk P w K mg base (CXE P w) k f fd ps sp ∧ Mk K C f ∧ Binds K fd ps ds ∧ Vals dvs ds
section
variable {P : Program} {w : World} {K : PySem.W.Frag} {mg : Str → Option Value} {base : Heap} {C : Addr} {x m qual : Str} {st : Stmt} {N ps : List Str} {dvs : List V} {k : Nat} {sp : Sp}
theorem RawF.ok (R : RawF K mg x st ps dvs) (S : FnScope N ps (defScope st)) (len : ∀ vs H Q E, sp vs H Q E → vs.length = ps.length)
    (hbody : ∀ (f : Addr) (cdv : Value) (A : Around) (outer : List Env) (s : Shared) (H : Hp) (vs : List V) (Q : VK) (E : XK), Room k (A.deeper (envOfC x (defScope st) s.heap.objs.size f cdv)) → sp vs H Q E →
      ∃ t, PSs (cxOf (CXE P w) P w K mg base N x (defScope st) f cdv A outer s H E) (defBody st) t ∧ t { nx := fun _ H' => Q .non H', rt := Q } (start N vs) H) : HasFn P w K mg base (k + 1) x ps sp dvs := by
  obtain ⟨f, oc, od, dV, kV, doc, pm, an, cdv, ct, osl, ds, lk, hcd, kp, hm, hb, hd⟩ := R
  exact ⟨f, _, ds, fn_of lk hcd S len fun A outer s H vs Q E hr hsp => hbody f cdv A outer s H vs Q E hr hsp, hm, kp, hb, hd⟩
theorem RawM.ok (R : RawM K C m qual st ps dvs) (S : FnScope N ps (defScope st)) (len : ∀ vs H Q E, sp vs H Q E → vs.length = ps.length)
    (hbody : ∀ (f : Addr) (cdv : Value) (A : Around) (outer : List Env) (s : Shared) (H : Hp) (vs : List V) (Q : VK) (E : XK), Room k (A.deeper (envOfC qual (defScope st) s.heap.objs.size f cdv)) → sp vs H Q E →
      ∃ t, PSs (cxOf (CXE P w) P w K mg base N qual (defScope st) f cdv A outer s H E) (defBody st) t ∧ t { nx := fun _ H' => Q .non H', rt := Q } (start N vs) H) : HasMe P w K mg base C (k + 1) m ps sp dvs := by
  obtain ⟨f, oc, od, dV, kV, doc, pm, an, cdv, ct, osl, ds, lk, hcd, hm, hb, hd⟩ := R
  exact ⟨f, _, ds, fn_of lk hcd S len fun A outer s H vs Q E hr hsp => hbody f cdv A outer s H vs Q E hr hsp, hm, hb, hd⟩
theorem RawI.ok (R : RawI K C qual st ps dvs) (S : FnScope N ps (defScope st)) (len : ∀ vs H Q E, sp vs H Q E → vs.length = ps.length)
    (hbody : ∀ (f : Addr) (cdv : Value) (A : Around) (outer : List Env) (s : Shared) (H : Hp) (vs : List V) (Q : VK) (E : XK), Room k (A.deeper (envOfC qual (defScope st) s.heap.objs.size f cdv)) → sp vs H Q E →
      ∃ t, PSs (cxOf (CXE P w) P w K mg base N qual (defScope st) f cdv A outer s H E) (defBody st) t ∧ t { nx := fun _ H' => Q .non H', rt := Q } (start N vs) H) : HasMk P w K mg base C (k + 1) ps sp dvs := by
  obtain ⟨f, oc, od, dV, kV, doc, pm, an, cdv, ct, osl, ds, lk, hcd, hm, hb, hd⟩ := R
  exact ⟨f, _, ds, fn_of lk hcd S len fun A outer s H vs Q E hr hsp => hbody f cdv A outer s H vs Q E hr hsp, hm, hb, hd⟩
end
section
variable {X : Cx} {C : Addr} {k : Nat} {ps : List Str} {sp : Sp} {dvs : List V} {E : St → XK} {x m : Str} {p pos apos : Pos} {e o : Expr} {es : List Expr} {ta : TE} {t : TA}
theorem pe_fn (h : HasFn X.prog X.w X.K X.mg X.base k x ps sp dvs) (hr : Room k X.A) (hg : Gl X x) (hx : PassesX (CXE X.prog X.w) X E)
    (ha : PA X (e :: es) t) (hdb : (x == ("__debug__" : Str)) = false := by decide) (he : starEach (e :: es) X.env = (false, eval e X.env) :: starEach es X.env := by rfl) (hpl : (backTo pos (starEach es X.env)).any (·.1) = false := by rfl) :
    PE X (.Call (.Name x p) (e :: es) [] pos) (tCallX sp dvs E t) := by
  obtain ⟨f, fd, ds, F, hm, hk, hb, hd⟩ := h
  exact pe_callX F hr hg hm hk hb hd hx ha hdb he hpl
theorem pe_me {pl : Sem Bool} (he : PE X o ta) (c : Cls X.K C) (h : HasMe X.prog X.w X.K X.mg X.base C k m ps sp dvs) (hr : Room k X.A) (hx : PassesX (CXE X.prog X.w) X E) (ha : PA X (e :: es) t)
    (hst : starEach (e :: es) X.env = (false, eval e X.env) :: starEach es X.env := by rfl) (hpl : (backTo pos (starEach es X.env)).any (·.1) = false := by rfl)
    (ht : eval (.Call (.Attribute o m apos) (e :: es) [] pos) X.env = (do
      let ov ← eval o X.env
      standAt apos.atName
      let (f, first) ← holding [ov] (getMethod ov m pl)
      callWith pos f first (backTo pos (starEach (e :: es) X.env)) (backToKw pos (keywordEach [] X.env))) := by rfl) :
    PE X (.Call (.Attribute o m apos) (e :: es) [] pos) (tMethX C m sp dvs E ta t) := by
  obtain ⟨f, fd, ds, F, hm, hb, hd⟩ := h
  exact pe_methX he c hm F hr hb hd hx ha hst hpl ht
theorem pe_me0 {pl : Sem Bool} (he : PE X o ta) (c : Cls X.K C) (h : HasMe X.prog X.w X.K X.mg X.base C k m ps sp dvs) (hr : Room k X.A) (hx : PassesX (CXE X.prog X.w) X E)
    (ht : eval (.Call (.Attribute o m apos) [] [] pos) X.env = (do
      let ov ← eval o X.env
      standAt apos.atName
      let (f, first) ← holding [ov] (getMethod ov m pl)
      callWith pos f first (backTo pos (starEach [] X.env)) (backToKw pos (keywordEach [] X.env))) := by rfl) :
    PE X (.Call (.Attribute o m apos) [] [] pos) (tMethX C m sp dvs E ta tNil) := by
  obtain ⟨f, fd, ds, F, hm, hb, hd⟩ := h
  exact pe_methX0 he c hm F hr hb hd hx ht
theorem pe_mk (h : HasMk X.prog X.w X.K X.mg X.base C k ps sp dvs) (hr : Room (k + 1) X.A) (hg : Gl X x) (hm : X.mg x = some (.ref C)) (hx : PassesX (CXE X.prog X.w) X E)
    (ha : PA X (e :: es) t) (hdb : (x == ("__debug__" : Str)) = false := by decide) (he : starEach (e :: es) X.env = (false, eval e X.env) :: starEach es X.env := by rfl) (hpl : (backTo pos (starEach es X.env)).any (·.1) = false := by rfl) :
    PE X (.Call (.Name x p) (e :: es) [] pos) (tMakeX C sp dvs E t) := by
  obtain ⟨f, fd, ds, F, M, hb, hd⟩ := h
  exact pe_makeX M F hr hg hm hb hd hx ha hdb he hpl
theorem pass_none {P : Program} {w : World} : PassesX (CXE P w) X (fun _ => E0) := fun _ _ _ _ _ _ _ hx => by
  obtain ⟨_, _, _, _, _, _, _, _, _, _, q⟩ := hx
  exact q.elim
theorem pe_globI {n : Int} (hg : Gl X x) (hm : ∃ t, X.mg x = some (.int n t)) (hd : (x == ("__debug__" : Str)) = false := by decide) : PE X (.Name x pos) (tC (.int n)) := by
  obtain ⟨t, hm⟩ := hm
  exact pe_glob hg hm ⟨t, rfl⟩ hd
end
section
variable {X : Cx} {K : PySem.W.Frag}
theorem call_lenK (h : X.K = K) : CallR X (.builtin "len") (fun xs H Q => ∃ p ys, xs = [.ref p] ∧ (SqL K H p ys ∨ SqT K H p ys) ∧ Q (.int ys.length) H) := by subst h; exact call_len_seq
theorem pe_fldK {e : Expr} {ta : TE} {f : Str} {pos : Pos} (h : X.K = K) (he : PE X e ta) (hb : attributeBase e f X.env (eval e X.env) = eval e X.env) : PE X (.Attribute e f pos) (tFld K ta f) := by subst h; exact pe_fld he hb
end
theorem iteN {c A B : Prop} [Decidable c] (h1 : ¬ c → A) (h2 : c → B) : if (!decide c) = true then A else B := by
  by_cases h : c
  · rw [decide_eq_true h]; exact iteF (h2 h)
  · rw [decide_eq_false h]; exact iteT (h1 h)
theorem iteD {c A B : Prop} [Decidable c] (h1 : c → A) (h2 : ¬ c → B) : if decide c = true then A else B := by
  by_cases h : c
  · rw [decide_eq_true h]; exact iteT (h1 h)
  · rw [decide_eq_false h]; exact iteF (h2 h)
theorem iteI {i j : Int} {A B : Prop} (h1 : i = j → A) (h2 : ¬ i = j → B) : if decide (V.int i = V.int j) = true then A else B :=
  iteD (fun z => h1 (by injection z)) fun z => h2 fun q => z (by rw [q])
theorem one_line : 1 ≤ sizeLine := by rw [sizeLine_eq]; decide
theorem small_line {n : Nat} (h : n ≤ 1000) : n ≤ sizeLine := by rw [sizeLine_eq]; omega
theorem same_upd {H : Hp} {q : Addr} {u : HO} (h : H q = none) : Same H (upd H q u) := fun b o z => by rw [upd_ne (ne_of_none z h)]; exact z
theorem kit_self (K : PySem.W.Frag) (v : Value) : PySem.W.kitOne K v v = some true := by
  unfold PySem.W.kitOne
  rw [if_pos (by simp)]
theorem kit_ib (K : PySem.W.Frag) : PySem.W.kitOne K (.type "int") (.type "bool") = some false := by
  unfold PySem.W.kitOne PySem.W.kitCls
  rw [if_neg (by decide)]
  have h1 : PySem.W.kitMeta "bool" = true := by decide +kernel
  simp only [h1, if_true]
  show Option.map (fun x => x.contains (Value.type "bool")) (fastBuiltinMro "int") = some false
  decide +kernel
theorem atI_getD {ns : List Int} {n : Int} (h0 : 0 ≤ n) (h1 : n < ns.length) : atI (ns.map V.int) n = some (.int (ns.getD n.toNat 0)) := by
  have e : n = ((n.toNat : Nat) : Int) := by omega
  have hl : n.toNat < ns.length := by omega
  rw [e]
  refine atI_nat ?_
  rw [List.getElem?_map, List.getElem?_eq_getElem hl, Int.toNat_natCast, List.getD_eq_getElem?_getD, List.getElem?_eq_getElem hl]
  rfl
theorem getD_out {ns : List Int} {k : Nat} (h : ns.length ≤ k) : ns.getD k 0 = 0 := by
  rw [List.getD_eq_getElem?_getD, List.getElem?_eq_none h]
  rfl
theorem cut_ints (ns : List Int) (lo hi : Option Int) : ∃ ms : List Int, cutV (ns.map V.int) lo hi = ms.map V.int ∧ ms.length ≤ ns.length := by
  unfold cutV
  refine ⟨(ns.drop (HT.sIx (ns.map V.int).length 0 lo)).take (HT.sIx (ns.map V.int).length (ns.map V.int).length hi - HT.sIx (ns.map V.int).length 0 lo), ?_, ?_⟩
  · rw [List.map_take, List.map_drop]
  · rw [List.length_take, List.length_drop]; omega
theorem mem_ints {ms : List Int} {i : Nat} {y : V} (h : (ms.map V.int)[i]? = some y) : ∃ c : Int, y = .int c ∧ ms[i]? = some c := by
  rw [List.getElem?_map] at h
  cases e : ms[i]? with
  | none => rw [e] at h; cases h
  | some c => rw [e] at h; exact ⟨c, (Option.some.inj h).symm, rfl⟩
end L2

set_option maxHeartbeats 4000000
namespace L2
open PySem PySem.Spec PyProof.Rows
section
variable {tc : TT} {te : TE} {σ : St} {H1 : Hp} {acc : Addr} {QH : Hp → Prop}
theorem comp_range {lo : Int} {n k : Nat} (hacc : H1 acc = none) (f : Nat → V) (p : Nat → Bool) (hn : n < sizeLine)
    (hc : ∀ (i : Nat) (ys : List V), i < n → ∀ R : Bool → Hp → Prop, R (p i) (upd H1 acc (.lst ys)) → tc (some (.int (lo + i)) :: σ) (upd H1 acc (.lst ys)) R)
    (he : ∀ (i : Nat) (ys : List V), i < n → p i = true → ∀ R : VK, R (f i) (upd H1 acc (.lst ys)) → te (some (.int (lo + i)) :: σ) (upd H1 acc (.lst ys)) R)
    (q : QH (upd H1 acc (.lst (((List.range n).filter p).map f)))) (hk : k = 1 := by rfl) : ∃ (W : Nat → List V → Hp → Prop) (n' : Nat), W 0 [] (upd H1 acc (.lst [])) ∧
  ∀ i ys H2, W i ys H2 → H2 acc = some (.lst ys) ∧ ys.length < sizeLine ∧ ((i = n' ∧ (Itr lo n).stop i H2 ∧ QH H2) ∨ (i < n' ∧ (Itr lo n).go i H2 ∧ ∀ x H3, (Itr lo n).yld i H2 x H3 → ∀ τ : St, τ.length = k → (gName 0) x (τ ++ σ) H3 fun τ2 H4 =>
    (∃ τ' : St, τ'.length = k ∧ τ2 = τ' ++ σ) ∧ tc τ2 H4 fun b H5 => if b = true then te τ2 H5 fun v H6 => H6 acc = some (.lst ys) ∧ W (i + 1) (ys ++ [v]) (upd H6 acc (.lst (ys ++ [v]))) else W (i + 1) ys H5)) := by
  subst hk
  refine ⟨fun i ys H2 => i ≤ n ∧ ys = ((List.range i).filter p).map f ∧ H2 = upd H1 acc (.lst ys), n, ⟨Nat.zero_le _, rfl, rfl⟩, ?_⟩
  rintro i ys H2 ⟨hi, hys, rfl⟩
  have hl : ys.length < sizeLine := by
    rw [hys, List.length_map]
    have := List.length_filter_le p (List.range i)
    rw [List.length_range] at this
    omega
  refine ⟨upd_same, hl, ?_⟩
  by_cases hlt : i < n
  · refine .inr ⟨hlt, hlt, ?_⟩
    rintro x H3 ⟨rfl, rfl⟩ τ hτ
    obtain ⟨t, rfl⟩ : ∃ t, τ = [t] := by
      match τ, hτ with
      | [t], _ => exact ⟨t, rfl⟩
    refine ⟨⟨[some (.int (lo + i))], rfl, rfl⟩, ?_⟩
    show tc (some (.int (lo + i)) :: σ) _ _
    refine hc i ys hlt _ ?_
    have rs : List.range (i + 1) = List.range i ++ [i] := List.range_succ
    cases hp : p i with
    | true =>
      refine iteT (he i ys hlt hp _ ⟨upd_same, hlt, ?_, upd_upd⟩)
      rw [rs, List.filter_append, List.map_append, hys]
      simp [List.filter, hp]
    | false =>
      refine iteF ⟨hlt, ?_, rfl⟩
      rw [rs, List.filter_append, List.map_append, hys]
      simp [List.filter, hp]
  · have e : i = n := by omega
    subst e
    refine .inl ⟨rfl, Nat.le_refl _, ?_⟩
    have := q
    rw [← hys] at this
    exact this
end
section
variable {X : Cx} {pins : List (Addr × Obj)} {σ : St} {H : Hp} {s : Shared}
end
end L2

set_option maxHeartbeats 4000000
namespace L2
open PySem PySem.Spec PyProof.Rows PyProof.V PySem.SeqAt
mutual
theorem noMix_self : ∀ d : PyData, d.canLay0 = true → noMix d d = true
  | .none, _ => by simp [noMix]
  | .bool _, _ => by simp [noMix]
  | .int _, _ => by simp [noMix]
  | .str _, _ => by simp [noMix]
  | .list xs, h => by
    rw [noMix]
    exact noMixAll_self xs (by simpa [PyData.canLay0] using h)
  | .tuple xs, h => by
    rw [noMix]
    exact noMixAll_self xs (by simpa [PyData.canLay0] using h)
  | .dict _, h => by simp [PyData.canLay0] at h
theorem noMixAll_self : ∀ ds : List PyData, PyData.canLayAll0 ds = true → noMixAll ds ds = true
  | [], _ => by simp [noMixAll]
  | d :: ds, h => by
    simp only [PyData.canLayAll0, Bool.and_eq_true] at h
    rw [noMixAll, noMix_self d h.1, noMixAll_self ds h.2]
    rfl
end
def Tid (n : Nat) (d : PyData) : Prop := d.canLay0 = true ∧ d.depth ≤ n
theorem Tid.shaped {n : Nat} {d : PyData} (h : Tid n d) (hn : n ≤ 64) : shaped d = true := by
  show (d.canLay0 && decide (d.depth ≤ 64)) = true
  rw [h.1, decide_eq_true (Nat.le_trans h.2 hn)]
  rfl
theorem Tid.int (i : Int) : Tid 1 (.int i) := ⟨by simp [PyData.canLay0], by simp [PyData.depth]⟩
theorem Tid.str {x : Str} (h : PyData.canLay0 (.str x) = true) : Tid 1 (.str x) := ⟨h, by simp [PyData.depth]⟩
theorem Tid.all {n : Nat} : ∀ {ds : List PyData}, (∀ d ∈ ds, Tid n d) → PyData.canLayAll0 ds = true ∧ PyData.depthAll ds ≤ n
  | [], _ => ⟨by simp [PyData.canLayAll0], by simp [PyData.depthAll]⟩
  | d :: ds, h => by
    have h1 := h d List.mem_cons_self
    have h2 := Tid.all (ds := ds) fun x hx => h x (List.mem_cons_of_mem _ hx)
    refine ⟨by simp [PyData.canLayAll0, h1.1, h2.1], ?_⟩
    have := h1.2
    have := h2.2
    simp only [PyData.depthAll]
    omega
theorem Tid.list {n : Nat} {ds : List PyData} (h : ∀ d ∈ ds, Tid n d) : Tid (n + 1) (.list ds) := by
  have q := Tid.all h
  refine ⟨by simpa [PyData.canLay0] using q.1, ?_⟩
  have := q.2
  simp only [PyData.depth]
  omega
theorem Tid.tuple {n : Nat} {ds : List PyData} (h : ∀ d ∈ ds, Tid n d) : Tid (n + 1) (.tuple ds) := by
  have q := Tid.all h
  refine ⟨by simpa [PyData.canLay0] using q.1, ?_⟩
  have := q.2
  simp only [PyData.depth]
  omega
theorem Tid.ints (ns : List Int) : Tid 2 (.list (ns.map PyData.int)) := Tid.list fun d hd => by
  rw [List.mem_map] at hd
  obtain ⟨i, _, rfl⟩ := hd
  exact Tid.int i
section
variable {K : PySem.W.Frag} {H : Hp} {x y : V} {d : PyData} {Q : VK} {n : Nat}
theorem rEqD_self (h1 : DatV K H x d) (h2 : DatV K H y d) (t : Tid n d) (q : Q (.bl true) H) (hn : n ≤ 64 := by decide) : rEqD K x y H Q :=
  ⟨d, d, h1, h2, t.shaped hn, t.shaped hn, noMix_self d t.1, by rw [PySem.Spec.same_self]; exact q⟩
theorem rNeD_self (h1 : DatV K H x d) (h2 : DatV K H y d) (t : Tid n d) (q : Q (.bl false) H) (hn : n ≤ 64 := by decide) : rNeD K x y H Q :=
  ⟨d, d, h1, h2, t.shaped hn, t.shaped hn, noMix_self d t.1, by rw [PySem.Spec.same_self]; exact q⟩
end
end L2

namespace L2
open PySem PySem.Spec PyProof.Rows
section
variable {X : Cx}
end
def notStar : Expr → Bool
  | .Starred _ _ => false
  | _ => true
theorem star_cons {e : Expr} {es : List Expr} {env : Env} (h : notStar e = true) : starEach (e :: es) env = (false, eval e env) :: starEach es env := by
  cases e <;> first | rfl | cases h
theorem pa_cn {X : Cx} {e : Expr} {es : List Expr} {te : TE} {t : TA} (ha : PE X e te) (hr : PA X es t) (h : notStar e = true) : PA X (e :: es) (tCons te t) := pa_cons ha hr (star_cons h)
theorem exW {p : (Nat → Nat → St → Hp → Prop) → Prop} (w : Nat → Nat → St → Hp → Prop) (h : p w) : ∃ w, p w := ⟨w, h⟩
theorem exN {p : (St → Hp → Prop) → Prop} (w : St → Hp → Prop) (h : p w) : ∃ w, p w := ⟨w, h⟩
theorem exD {p : PyData → Prop} (w : PyData) (h : p w) : ∃ w, p w := ⟨w, h⟩
theorem exW2 {p : (Nat → St → Hp → Prop) → Prop} (w : Nat → St → Hp → Prop) (h : p w) : ∃ w, p w := ⟨w, h⟩
theorem up_old {H : Hp} {q b : Addr} {u o : HO} (h : H q = none) (e : H b = some o) : upd H q u b = some o := same_upd h b o e
theorem up_ne {H : Hp} {q b : Addr} {u o : HO} (h : b ≠ q) (e : H b = some o) : upd H q u b = some o := by rw [upd_ne h]; exact e
theorem lk_next {f g : Str} {v : V} {r : List (Str × V)} {o : Option V} (h : ¬ g = f) (e : r.lookup g = o) : ((f, v) :: r).lookup g = o := by
  have hb : (g == f) = false := beq_eq_false_iff_ne.mpr h
  simp only [List.lookup, hb]
  exact e
theorem sm_upd {H H' : Hp} {q : Addr} {u : HO} (h : H' q = none) (e : Same H H') : Same H (upd H' q u) := e.trans (same_upd h)
theorem lk_eq {f : Str} {v : V} {r : List (Str × V)} : ((f, v) :: r).lookup f = some v := by
  have hb : (f == f) = true := beq_iff_eq.mpr rfl
  simp only [List.lookup, hb]
theorem pf_eq {f : Str} {v x : V} {r : List (Str × V)} : putF f v ((f, x) :: r) = (f, v) :: r := if_pos rfl
theorem pf_ne {f g : Str} {v x : V} {r : List (Str × V)} (h : ¬ g = f) : putF f v ((g, x) :: r) = (g, x) :: putF f v r := if_neg h
theorem Room.u1 {k : Nat} {A : Around} (r : Room k A) : A.units + 1 < cLine := by have := r.un; omega
section
variable {X : Cx}
theorem op_notInD (hu : X.A.units + 1 < cLine) : OpR X (compareOp .NotIn) (fun x y H Q => ∃ a o, y = .ref a ∧ DGet H a x o ∧ Q (.bl (!o.isSome)) H) := by
  intro pins s σ H x y v u Q I rx ry h
  obtain ⟨a, o, rfl, g, q⟩ := h
  cases ry
  exact d_notIn hu I g rx fun s3 I3 => ⟨.bl (!o.isSome), H, I3, rfl, q⟩
end
def Fr (fp fp' : List Addr) (H H' : Hp) : Prop := (∀ b u, H b = some u → b ∉ fp → H' b = some u) ∧ ∀ b, b ∈ fp' → b ∈ fp ∨ H b = none
theorem Fr.same {fp : List Addr} {H H' : Hp} (h : Same H H') : Fr fp fp H H' := ⟨fun b u z _ => h b u z, fun _ h => .inl h⟩
theorem Fr.out {fp fp' : List Addr} {H H' : Hp} (h : Fr fp fp' H H') {b : Addr} {u : HO} (e : H b = some u) (n : b ∉ fp) : H' b = some u ∧ b ∉ fp' :=
  ⟨h.1 b u e n, fun z => (h.2 b z).elim (fun q => n q) fun q => by rw [e] at q; cases q⟩
theorem Fr.trans {fp fp' fp'' : List Addr} {H H' H'' : Hp} (h : Fr fp fp' H H') (k : Fr fp' fp'' H' H'') : Fr fp fp'' H H'' := by
  refine ⟨fun b u e n => ?_, fun b hb => ?_⟩
  · obtain ⟨e1, n1⟩ := h.out e n
    exact k.1 b u e1 n1
  · rcases k.2 b hb with q | q
    · exact h.2 b q
    · by_cases n : b ∈ fp
      · exact .inl n
      · refine .inr ?_
        cases e : H b with
        | none => rfl
        | some u => rw [h.1 b u e n] at q; cases q
theorem Fr.put {fp : List Addr} {H : Hp} {b : Addr} {o : HO} (h : b ∈ fp) : Fr fp fp H (upd H b o) :=
  ⟨fun c u e n => by rw [upd_ne fun z => n (by rw [z]; exact h)]; exact e, fun _ z => .inl z⟩
section
variable {X : Cx}
end
theorem countP_eqU {x : V} : ∀ {xs : List V} {us : List Value}, Vals xs us → xs.all flatV = true → us.countP (eqU x) = xs.countP fun y => eqV y x
  | _, _, .nil, _ => rfl
  | y :: xs, u :: us, .cons r t, f => by
    rw [List.all_cons, Bool.and_eq_true] at f
    rw [List.countP_cons, List.countP_cons, eqU_of r f.1, countP_eqU t f.2]
section
variable {X : Cx}
def rCountV : V → List V → Hp → VK → Prop := fun x vs H Q => ∃ (l : Addr) (xs : List V) (y : V), x = .ref l ∧ vs = [y] ∧ H l = some (.lst xs) ∧ flatV y = true ∧ xs.all flatV = true ∧ Q (.int (xs.countP (fun z => eqV z y) : Nat)) H
theorem mt_countV : MtM X "list.count" rCountV := by
  intro pins s σ H x vs v us Q I rx rv h
  obtain ⟨l, xs, y, rfl, rfl, hl, fy, fs, q⟩ := h
  cases rx
  obtain ⟨u, rfl, ru⟩ := vals1 rv
  obtain ⟨its, r, p, hz⟩ := I.list (SqL.of hl)
  obtain ⟨⟨oc, od, odt, osl⟩, n, e, ec, ed, es⟩ := p
  dsimp only at ec ed es
  subst ec
  subst ed
  subst es
  refine call_meets PySem.F.slot_list_count ⟨_, e, rfl⟩ PySem.F.entry_list_count (PySem.F.args_list_count_2 _ _) (PySem.SeqAt.list_countAt l its.toArray n none osl u (eqU y)) ⟨e, fun w hw => mem_eqAt ru fy r fs w (by simpa using hw), ⟨.int _, H, I.tok _, ⟨_, rfl⟩, ?_⟩⟩
  have e2 : (its.toArray.toList).countP (eqU y) = xs.countP fun z => eqV z y := countP_eqU r fs
  rw [e2]
  exact q
def rIndexV : V → List V → Hp → VK → Prop := fun x vs H Q => ∃ (l : Addr) (xs : List V) (y : V) (j : Nat), x = .ref l ∧ vs = [y] ∧ H l = some (.lst xs) ∧ flatV y = true ∧ xs.all flatV = true ∧ (∃ z, xs[j]? = some z ∧ eqV z y = true) ∧ (∀ m z, m < j → xs[m]? = some z → eqV z y = false) ∧ Q (.int j) H
theorem mt_indexV : MtM X "list.index" rIndexV := by
  intro pins s σ H x vs v us Q I rx rv h
  obtain ⟨l, xs, y, j, rfl, rfl, hl, fy, fs, ⟨z, hz1, hz2⟩, hno, q⟩ := h
  cases rx
  obtain ⟨u, rfl, ru⟩ := vals1 rv
  obtain ⟨its, r, p, hz⟩ := I.list (SqL.of hl)
  obtain ⟨⟨oc, od, odt, osl⟩, n, e, ec, ed, es⟩ := p
  dsimp only at ec ed es
  subst ec
  subst ed
  subst es
  have fl : ∀ z ∈ xs, flatV z = true := List.all_eq_true.mp fs
  have h3 : sizeLine = 16777216 := sizeLine_eq
  have hlen := r.length
  have hj : j < its.length := by rw [← hlen]; exact (List.getElem?_eq_some_iff.mp hz1).1
  have at' : ∀ (m : Nat) (hm : m < its.length) (z : V), xs[m]? = some z → eqU y its[m] = eqV z y := fun m hm z hz => by
    obtain ⟨w, hw, rw'⟩ := r.get hz
    rw [List.getElem?_eq_getElem hm] at hw
    cases hw
    exact eqU_of rw' (fl z (List.mem_of_getElem? hz))
  refine call_meets PySem.F.slot_list_index ⟨_, e, rfl⟩ PySem.F.entry_list_index (PySem.F.args_list_index_2 _ _) (PySem.SeqAt.list_indexAt l its.toArray n none osl u (eqU y) j
    (by simpa using hj) (by omega) ?_ fun m hm lt => ?_) ⟨e, fun w hw => mem_eqAt ru fy r fs w (by simpa using hw), ⟨.int _, H, I.tok _, ⟨_, rfl⟩, q⟩⟩
  · have : eqU y (its[j]'hj) = true := by rw [at' j hj z hz1]; exact hz2
    simpa using this
  · have hm' : m < its.length := by simpa using hm
    have hx : m < xs.length := by omega
    have : eqU y (its[m]'hm') = false := by rw [at' m hm' xs[m] (List.getElem?_eq_getElem hx)]; exact hno m _ lt (List.getElem?_eq_getElem hx)
    simpa using this
end
end L2

set_option maxHeartbeats 4000000
namespace L2
open PySem PySem.Spec PyProof.Rows
end L2

set_option maxHeartbeats 4000000
namespace L2
open PySem PySem.Spec PyProof.Rows
section
variable {P : Program} {w : World} {K : PySem.W.Frag} {mg : Str → Option Value} {base : Heap} {C : Addr} {x m qual : Str} {st : Stmt} {N ps : List Str} {dvs : List V} {k : Nat} {sp : Sp}
end
section
variable {X : Cx} {C : Addr} {k : Nat} {ps : List Str} {sp : Sp} {dvs : List V} {E : St → XK} {x m : Str} {p pos apos : Pos} {e o : Expr} {es : List Expr} {ta : TE} {t : TA}
def tMeD (X : Cx) (k : Nat) (m : Str) (dvs : List V) (E : St → XK) (ta : TE) (t : TA) : TE := fun σ H Q => ta σ H fun x H1 => ∃ a C dx fs ps sp, x = .ref a ∧ H1 a = some (.ins C dx fs) ∧ Cls X.K C ∧ HasMe X.prog X.w X.K X.mg X.base C k m ps sp dvs ∧ fs.lookup m = none ∧
  t σ H1 fun vs H2 => sp (.ref a :: (vs ++ dvs)) H2 Q (E σ)
theorem pe_meD0 {pl : Sem Bool} (he : PE X o ta) (hr : Room k X.A) (hx : PassesX (CXE X.prog X.w) X E)
    (ht : eval (.Call (.Attribute o m apos) [] [] pos) X.env = (do
      let ov ← eval o X.env
      standAt apos.atName
      let (f, first) ← holding [ov] (getMethod ov m pl)
      callWith pos f first (backTo pos (starEach [] X.env)) (backToKw pos (keywordEach [] X.env))) := by rfl) :
    PE X (.Call (.Attribute o m apos) [] [] pos) (tMeD X k m dvs E ta tNil) := by
  intro pins s σ H Q I h
  refine PySem.W.methodCall_KW (pl := pl) (thn (he pins s σ H _ I h) fun u s1 ⟨x, H1, I1, rx, a, C, dx, fs, ps, sp, ex, ea, c, ⟨f, fd, ds, F, hm, hb, hd⟩, l, q⟩ => ?_) ht
  subst ex
  obtain rfl : u = Value.ref a := rx
  refine getmeth_ok I1 ea c hm l ?_
  exact PySem.W.callWith_K0 (first := [.ref a]) I1.kIn hm.kp (run_fnX (us := [.ref a]) (vs := [.ref a]) F hr hb hd hx I1 (.cons rfl .nil) q)
end
def tMeDK (P : Program) (w : World) (K : PySem.W.Frag) (mg : Str → Option Value) (base : Heap) (k : Nat) (m : Str) (dvs : List V) (E : St → XK) (ta : TE) (t : TA) : TE := fun σ H Q => ta σ H fun x H1 => ∃ a C dx fs ps sp, x = .ref a ∧ H1 a = some (.ins C dx fs) ∧ Cls K C ∧ HasMe P w K mg base C k m ps sp dvs ∧ fs.lookup m = none ∧
  t σ H1 fun vs H2 => sp (.ref a :: (vs ++ dvs)) H2 Q (E σ)
section
variable {X : Cx} {P : Program} {w : World} {K : PySem.W.Frag} {mg : Str → Option Value} {base : Heap} {m : Str} {dvs : List V} {k : Nat} {E : St → XK} {ta : TE} {t : TA} {o e : Expr} {es : List Expr} {pos apos : Pos}
theorem pe_meDK0 {pl : Sem Bool} (eP : X.prog = P) (ew : X.w = w) (eK : X.K = K) (em : X.mg = mg) (eb : X.base = base) (he : PE X o ta) (hr : Room k X.A) (hx : PassesX (CXE X.prog X.w) X E)
    (ht : eval (.Call (.Attribute o m apos) [] [] pos) X.env = (do
      let ov ← eval o X.env
      standAt apos.atName
      let (f, first) ← holding [ov] (getMethod ov m pl)
      callWith pos f first (backTo pos (starEach [] X.env)) (backToKw pos (keywordEach [] X.env))) := by rfl) :
    PE X (.Call (.Attribute o m apos) [] [] pos) (tMeDK P w K mg base k m dvs E ta tNil) := by
  subst eP; subst ew; subst eK; subst em; subst eb
  exact pe_meD0 (pl := pl) he hr hx ht
end
section
variable {X : Cx} {a : Addr} {x : Str} {i : Expr} {ty : TE} {p pos : Pos}
end
section
variable {P : Program} {w : World} {K : PySem.W.Frag} {mg : Str → Option Value} {base : Heap} {C f : Addr} {m : Str} {ps : List Str} {dvs : List V} {ds : List Value} {k : Nat} {sp : Sp} {fd : FuncData}
theorem hasMk (F : FnOk P w K mg base (CXE P w) k f fd ps sp) (h : Mk K C f) (hb : Binds K fd ps ds) (hd : Vals dvs ds) : HasMk P w K mg base C k ps sp dvs := ⟨f, fd, ds, F, h, hb, hd⟩
end
section
variable {X : Cx} {x : Str} {pos : Pos}
end
end L2

set_option maxHeartbeats 4000000
namespace L2
open PySem PySem.Spec PyProof.Rows
section
variable {X : Cx} {pins : List (Addr × Obj)} {σ : St} {H : Hp} {s : Shared}
end
end L2

set_option maxHeartbeats 4000000
namespace L2
open PySem PySem.Spec PyProof.Rows
section
variable {X : Cx}
variable {pins : List (Addr × Obj)} {σ : St} {H : Hp} {s : Shared} {a : Addr} {kvs : List (Key × V)} {k : Key} {A : Around} {E : Value → Shared → Prop} {u : Value}
variable {o e' f : Expr} {apos cpos : Pos} {td ty tx : TE}
end
end L2

set_option maxHeartbeats 4000000
namespace L2
open PySem PyProof.Rows
section
variable {x y : Int} {k : Nat}
end
end L2

set_option maxHeartbeats 4000000
namespace L2
open PySem PyProof.Rows
end L2

set_option maxHeartbeats 4000000
namespace L2
open PySem PySem.Spec PyProof.Rows
section
variable {X : Cx} {pins : List (Addr × Obj)} {σ : St} {H : Hp} {s : Shared}
end
end L2

set_option maxHeartbeats 4000000
namespace L2
end L2

set_option maxHeartbeats 4000000
namespace PySem
open Sem (wp)
open AutoSeq1 (wpAny_loadPart')
section
variable {prog : Program} {w : World} {A : Around} {E : Value → Shared → Prop} {s : Shared}
end
end PySem

set_option maxHeartbeats 4000000
namespace L2
open PySem PySem.Spec PyProof.Rows
section
variable {X : Cx} {pins : List (Addr × Obj)} {σ : St} {H : Hp} {s : Shared}
end
end L2

set_option maxHeartbeats 4000000
namespace PySem
namespace F
end F
section
variable {prog : Program} {w : World} {A : Around} {E : Value → Shared → Prop} {s : Shared}
open PyProof.Rows
end
namespace F
end F
section
open Sem (wp)
variable {prog : Program} {w : World} {A : Around} {s : Shared} {R : Result → Shared → Prop}
variable {I : Addr} {fp wr : List Addr} {G : Array GenState → Array GenState → Prop} {n : Nat} {P : Nat → Value → Prop} {St : Nat → Shared → Prop}
end
section
variable {prog : Program} {w : World} {A : Around} {E : Value → Shared → Prop} {s : Shared}
variable {I : Addr} {fp wr : List Addr} {G : Array GenState → Array GenState → Prop} {n : Nat} {P : Nat → Value → Prop} {St : Nat → Shared → Prop}
end
end PySem

set_option maxHeartbeats 4000000
namespace L2
open PySem PySem.Spec PyProof.Rows
section
variable {X : Cx} {tg l : Expr} {tl : TE} {p pos : Pos}
end
end L2

set_option maxHeartbeats 4000000
namespace L2
open PySem PySem.Spec PyProof.Rows
end L2

set_option maxHeartbeats 4000000
namespace L2
open PySem PySem.Spec PyProof.Rows
section
variable {X : Cx} {tg : Expr}
end
end L2

set_option maxHeartbeats 4000000
namespace L2
open PySem PySem.Spec PyProof.Rows
section
variable {X : Cx} {pins : List (Addr × Obj)} {σ : St} {H : Hp} {s : Shared} {a : Addr}
end
end L2

set_option maxHeartbeats 4000000
namespace L2
open PySem PySem.Spec PyProof.Rows
section
variable {X : Cx}
theorem strs_are : ∀ {ys : List Str} {us : List Value}, Vals (ys.map V.str) us → StrsAre us ys
  | [], _, .nil => .nil
  | y :: ys, _, .cons r t => by
    obtain ⟨k, rfl⟩ := r
    exact .cons y k (strs_are t)
def rJoin : V → List V → Hp → VK → Prop := fun x vs H Q => ∃ (y : Str) (l : Addr) (ys : List Str), x = .str y ∧ vs = [.ref l] ∧ H l = some (.lst (ys.map V.str)) ∧ y.length ≤ 16 ∧ (ys.map fun x => x.length).sum + ys.length ≤ 1048576 ∧ Q (.str (Txt.join y ys)) H
theorem mt_join : MtM X "str.join" rJoin := by
  intro pins s σ H x vs v us Q I rx rv h
  obtain ⟨y, l, ys, rfl, rfl, hl, h1, h2, q⟩ := h
  obtain ⟨t, rfl⟩ := rx
  obtain ⟨u, rfl, ru⟩ := vals1 rv
  cases ru
  obtain ⟨its, r, p, hz⟩ := I.list (SqL.of hl)
  exact join_listW p.isList (by simpa using strs_are r) h1 h2 fun t' k => ⟨.str _, H, I.tok _, ⟨_, rfl⟩, q⟩
def rSlS : V → Option Int → Option Int → Hp → VK → Prop := fun x lo hi H Q => ∃ y, x = .str y ∧ y.length ≤ sizeLine ∧ Q (.str (Txt.slice y lo hi)) H
theorem part_of {v : Value} {o : Option Int} (h : IsPart v o) : ∃ l : Option (Int × Tok), partValue l = v ∧ l.map (·.1) = o := by
  cases h
  · exact ⟨none, rfl, rfl⟩
  · exact ⟨some (_, _), rfl, rfl⟩
theorem sl_str : SlR X rSlS := by
  intro pins s σ H x v vl vu lo hi sl Q I rx hs pl pu h
  obtain ⟨y, rfl, hy, q⟩ := h
  obtain ⟨t, rfl⟩ := rx
  obtain ⟨l, el, ml⟩ := part_of pl
  obtain ⟨u, eu, mu⟩ := part_of pu
  refine ⟨"str", _, PySem.F.slot_str_getitem.lookup, ?_, ?_⟩
  · trivial
  · refine wpAny_getItem_str_slice (l := l) (u := u) (st := none) ?_ rfl ?_
    · subst el; subst eu
      obtain ⟨o, h1, h2, h3⟩ := hs
      exact ⟨o, h1, h2, h3⟩
    · subst ml; subst mu
      unfold sliceMade slicePicked
      have le := Txt.slice_le y (l.map (·.1)) (u.map (·.1))
      unfold Txt.slice at q le
      simp only [Option.map_none, Option.getD_none]
      split at q
      · next c => rw [if_pos c]; exact ⟨.str y, H, I, ⟨t, rfl⟩, q⟩
      · next c => rw [if_neg c] at le ⊢; exact ⟨Nat.le_trans le hy, .str _, H, I.tok _, ⟨_, rfl⟩, q⟩
end
end L2

set_option maxHeartbeats 4000000
namespace L2
open PySem PySem.Spec PyProof.Rows
def Its (x : Str) : It := ⟨fun i _ => i < x.cps.size, fun i H v H' => H' = H ∧ ∃ c, x.cps[i]? = some c ∧ v = .str ⟨#[c]⟩, fun i _ => i = x.cps.size⟩
theorem turn_str {P : Program} {w : World} {K : PySem.W.Frag} {tg : Expr} (it : Addr) (x : Str) (t : Tok) (ty : String)
    (hn : ["enumerate", "zip", "dict_itemiterator", "dict_reverseitemiterator", "odict_iterator", "itertools.zip_longest", "itertools.pairwise"].contains ty = false)
    (W : ∀ A' : Around, A'.handled = none → Walks P w A' it [it] [it] x.cps.size (SignAt x) (fun i h => h.IsStrIter it ty x t i))
    (hs : ∀ (A : Around) (i : Nat) (s : Shared) (Q : Value → Shared → Prop) (E : Value → Shared → Prop), s.heap.IsStrIter it ty x t i → Q (.ref it) s → wpAny (model P w) A (pyIter (.ref it)) Q E s) :
    Turn P w K tg (Its x) [it] it (fun i h => h.IsStrIter it ty x t i) where
  mem := by simp
  obj := fun i h st b hb => by
    have e : b = it := by simpa using hb
    subst e
    obtain ⟨o, e, c, d⟩ := st
    exact ⟨o, e, fun v z => by rw [d] at z; cases z⟩
  keep := fun i h h' st k => by
    obtain ⟨o, e, r⟩ := st
    exact ⟨o, k it (by simp) o e, r⟩
  item := by
    intro X hP hw hK hc i pins s σ H E I hf st hg
    subst hP hw hK
    obtain ⟨f0, f1, f2, f3, f4, f5⟩ := hf it (by simp)
    refine (W X.A (I.ok.hd hc)).item i s _ _ hg st fun v h' tk hv st' kk => ?_
    obtain ⟨c, u, hcx, rfl⟩ := hv
    have I1 : Inv X pins σ H { s with heap := h', toks := tk } := I.turned (fun b o hb e => kk b o (by simpa using hb) e) f0 f1 f3 f4 f5
    obtain ⟨o, e, c1, d⟩ := id st'
    exact ⟨_, rfl, go_of (s := { s with heap := h', toks := tk }) e c1 d hn ⟨.str ⟨#[c]⟩, H, I1, ⟨u, rfl⟩, ⟨rfl, c, hcx, rfl⟩, st', fun b hb => (hf b hb).1⟩⟩
  done := by
    intro X hP hw hK hc i pins s σ H E I hf st hg
    subst hP hw hK
    obtain ⟨f0, f1, f2, f3, f4, f5⟩ := hf it (by simp)
    have hg : i = x.cps.size := hg
    subst hg
    exact (W X.A (I.ok.hd hc)).done s _ _ st fun h' tk kk => ⟨rfl, I.turned (fun b o hb e => kk b o (by simpa using hb) e) f0 f1 f3 f4 f5⟩
  self := hs
section
variable {X : Cx} {tg : Expr}
def iStr (tl : TE) : TI := fun σ H R => tl σ H fun x H1 => ∃ y, x = .str y ∧ R (Its y) H1
theorem pi_str {l : Expr} {tl : TE} (hl : PE X l tl) : PI X tg l (iStr tl) := by
  intro pins s σ H R I h
  refine thn (hl pins s σ H _ I h) fun v s1 ⟨x, H1, I1, r1, q1⟩ => ?_
  obtain ⟨y, e, q⟩ := q1
  subst e
  obtain ⟨t, rfl⟩ := r1
  have fin : ∀ (o : Obj) (tn : Nat → Heap → Prop), Turn X.prog X.w X.K tg (Its y) [s1.heap.objs.size] s1.heap.objs.size tn → tn 0 (s1.heap.push o) → PIE X pins σ tg R (.ref s1.heap.objs.size) { s1 with heap := s1.heap.push o } := fun o tn ht h0 => by
    refine ⟨s1.heap.objs.size, [s1.heap.objs.size], tn, _, H1, rfl, I1.kept (t' := s1.toks) fun b o e => Heap.get?_push_of_some _ e, ht, h0, fun b hb => ?_, q⟩
    have e : b = s1.heap.objs.size := by simpa using hb
    subst e
    exact I1.fpOk (Nat.le_refl _) (I1.hok.fresh (Nat.le_refl _))
  cases ha : y.cps.all (· < 128)
  · exact wpAny_pyIter_wide ha (fin _ _ (turn_str _ y t "str_iterator" (by decide) (fun A' hA => Walks.strWide hA _ y t) fun _ _ _ _ _ st h => wpAny_pyIter_striter_wide st h) ⟨_, Heap.get?_push_size _ rfl, rfl, rfl⟩)
  · exact wpAny_pyIter_ascii ha (fin _ _ (turn_str _ y t "str_ascii_iterator" (by decide) (fun A' hA => Walks.strAscii hA _ y t) fun _ _ _ _ _ st h => wpAny_pyIter_striter_ascii st h) ⟨_, Heap.get?_push_size _ rfl, rfl, rfl⟩)
end
theorem for_str {x : Str} {g : TG} {tb : TS} {D : Ends} {σ : St} {H : Hp} (Pv : Nat → St → Hp → Prop) (h0 : Pv 0 σ H)
    (hs : ∀ i c σ H, x.cps[i]? = some c → Pv i σ H → g (.str ⟨#[c]⟩) σ H fun σ2 H2 => tb { D with nx := Pv (i + 1), ct := Pv (i + 1), bk := D.nx } σ2 H2) (hd : ∀ σ H, Pv x.cps.size σ H → D.nx σ H) :
    ∃ W : Nat → Nat → St → Hp → Prop, (∃ m, W 0 m σ H) ∧ ∀ i m σ H, W i m σ H →
      ((Its x).stop i H ∧ D.nx σ H) ∨ ((Its x).go i H ∧ ∃ N : St → Hp → Prop, (∀ σ' H', N σ' H' → ∃ m', m' < m ∧ W (i + 1) m' σ' H') ∧ ∀ v H', (Its x).yld i H v H' → g v σ H' fun σ2 H2 => tb { D with nx := N, ct := N, bk := D.nx } σ2 H2) := by
  refine ⟨fun i m σ H => m = x.cps.size - i ∧ i ≤ x.cps.size ∧ Pv i σ H, ⟨x.cps.size, by simp, Nat.zero_le _, h0⟩, ?_⟩
  rintro i m σ H ⟨rfl, hi, p⟩
  by_cases hlt : i < x.cps.size
  · refine .inr ⟨hlt, Pv (i + 1), fun σ' H' p' => ⟨x.cps.size - (i + 1), by omega, rfl, hlt, p'⟩, fun v H' y => ?_⟩
    obtain ⟨e, c, hc, rfl⟩ := y
    subst e
    exact hs i c σ _ hc p
  · have e : i = x.cps.size := by omega
    subst e
    exact .inl ⟨rfl, hd σ H p⟩
end L2


set_option maxHeartbeats 4000000
namespace PySem
section
variable {prog : Program} {w : World} {A : Around} {E : Value → Shared → Prop} {s : Shared}
end
section
variable {prog : Program} {w : World} {A : Around} {E : Value → Shared → Prop} {s : Shared} {z TI TO i1 i2 l1 l2 : Addr} {xs ys : Array Value} {P1 P2 : Nat → Heap → Prop}
end
end PySem

set_option maxHeartbeats 4000000
namespace L2
open PySem PySem.Spec PyProof.Rows
section
variable {X : Cx} {pins : List (Addr × Obj)} {σ : St} {H : Hp} {s : Shared}
end
section
variable {X : Cx} {elts : List Expr} {kk : Nat} {tpos p pos : Pos} {e1 e2 : Expr} {t1 t2 : TE}
end
section
variable {X : Cx}
end
end L2


set_option maxHeartbeats 4000000
namespace L2
open PySem PySem.Spec PyProof.Rows
def TKeys (kvs : List (Key × V)) (ks : List Str) : Prop := kvs.map (·.1) = ks.map Sum.inr
theorem keys_strs {P : Program} {w : World} : ∀ {kvs : List (Key × V)} {vs : List (Key × Value)} {ks : List Str} {acc : List Value}, KV kvs vs → TKeys kvs ks → acc.length = vs.length →
    (∀ (j : Nat) (v : Value), acc[j]? = some v → ∃ k x, vs[j]? = some (k, x) ∧ (mixKind P w).is k v = true) → StrsAre acc ks
  | _, _, ks, acc, .nil, hk, hl, h => by
    have e : ks = [] := by
      cases ks with
      | nil => rfl
      | cons a b => cases hk
    have e2 : acc = [] := List.eq_nil_of_length_eq_zero hl
    rw [e, e2]; exact .nil
  | _, _, ks, acc, .cons (a := p) (b := q) r t, hk, hl, h => by
    cases ks with
    | nil => cases hk
    | cons i ks =>
      cases acc with
      | nil => cases hl
      | cons v acc =>
        have hk' := List.cons.inj hk
        obtain ⟨k, x, e1, e2⟩ := h 0 v rfl
        have e1 : q = (k, x) := Option.some.inj e1
        have ek : k = .inr i := by
          have : p.1 = q.1 := r.1
          rw [e1] at this
          exact this.symm.trans hk'.1
        subst ek
        obtain ⟨tk, rfl⟩ : ∃ t, v = .str i t := by
          exact Value.isStrOf_shape e2
        exact .cons i tk (keys_strs t hk'.2 (Nat.succ.inj hl) fun j v' e => h (j + 1) v' (by simpa using e))
theorem strs_vals : ∀ {vs : List Value} {ns : List Str}, StrsAre vs ns → Vals (ns.map V.str) vs
  | _, _, .nil => .nil
  | _, _, .cons n t r => .cons ⟨t, rfl⟩ (strs_vals r)
section
variable {X : Cx}
theorem call_sortedT (hh : X.A.handled = none) : CallR X (.builtin "sorted") (fun xs H Q => ∃ a kvs ks, xs = [V.ref a] ∧ H a = some (.dK kvs) ∧ TKeys kvs ks ∧ ks.length < 64 ∧ ∀ (p : Addr) (ns : List Str), H p = none → ns.Perm ks → sortedS ns = true → Q (.ref p) (upd H p (.lst (ns.map V.str)))) := by
  intro pins s σ H xs us Q I r h
  obtain ⟨a, kvs, ks, rfl, ea, hk, k64, q⟩ := h
  obtain ⟨u, rfl, rx⟩ := vals1 r
  cases rx
  obtain ⟨z, hd, vs, rel, dd⟩ := dk_of I.hok ea
  obtain ⟨ep, da⟩ := dd.dictAt
  have hl := rel.length
  have kl : kvs.length = ks.length := by have := congrArg List.length hk; simpa using this
  refine Calls.call_function_entry kind_sorted plain_sorted entry_sorted (args_sorted1 (Value.ref a)) ?_
  refine wpAny_bind (wpAny_pure (wpAny_bind (PySem.W.kdu_collect (PySem.W.kdl_dict hd) hh da (by omega) fun h' tk acc kp it => ?_)))
  have ia := keys_strs rel hk (acc := acc.toList) (by rw [Array.length_toList]; exact it.1) fun j v e => it.2 j v (by simpa using e)
  have al : acc.toList.length = vs.length := by rw [Array.length_toList]; exact it.1
  refine wpAny_bind (wpAny_newList ?_ (by rw [sizeLine_eq]; omega))
  have hoL : (h'.push (seqObj "list" acc.toList.toArray 0)).get? h'.objs.size = some (seqObj "list" acc.toList.toArray 0) := Heap.get?_push_size h' rfl
  refine wpAny_bind (wpAny_holding (wpAny_call_entry slot_list_sort ⟨_, hoL, rfl⟩ entry_list_sort (list_sort_treeK strKind_oneLt hoL ia.keysOf (fun v₁ v₂ rest e => keyKind_strs (by rw [← e]; exact ia)) (by omega) fun st' hp hs => ⟨.none, rfl, wpAny_pure ⟨_, rfl, ?_⟩⟩) (args_list_sort _)))
  obtain ⟨ns', a1, a2, a3⟩ := sorted_out_str ia hp hs
  have sz : (h'.push (seqObj "list" acc.toList.toArray 0)).objs.size = h'.objs.size + 1 := size_push' _ _
  have I1 := I.kept (t' := tk) kp
  have kp' : ∀ b o, h'.get? b = some o → (sortedHeap (h'.push (seqObj "list" acc.toList.toArray 0)) h'.objs.size acc.toList ((arrOf st').map (·.2))).get? b = some o := fun b o e => by
    have lt : b < h'.objs.size := Heap.lt_size e
    rw [sortedHeap_old (Nat.ne_of_lt lt) (Nat.lt_of_lt_of_le lt (by rw [sz]; exact Nat.le_succ _)), Heap.get?_push_of_some _ e]
  obtain ⟨ee, he⟩ := sortedHeap_at (out := (arrOf st').map (·.2)) hoL
  have iv := strs_vals a1
  have hpl := a2.length_eq
  refine ⟨.ref h'.objs.size, _, I1.laid (t' := tk) kp' (Nat.le_refl _) (show ObjOk X.prog X.w _ _ _ (.lst (ns'.map V.str)) from ⟨?_, ((arrOf st').map (·.2)).toList, ee, iv, he⟩), rfl, q _ ns' (I1.hok.fresh (Nat.le_refl _)) a2 a3⟩
  rw [List.length_map, sizeLine_eq]; omega
end
section
variable {X : Cx} {k : Nat} {C : Addr} {ps : List Str} {sp : Sp} {dvs : List V} {E : St → XK} {x : Str} {p pos : Pos}
theorem pe_mk0 (h : HasMk X.prog X.w X.K X.mg X.base C k ps sp dvs) (hr : Room (k + 1) X.A) (hg : Gl X x) (hm : X.mg x = some (.ref C)) (hx : PassesX (CXE X.prog X.w) X E)
    (hdb : (x == ("__debug__" : Str)) = false := by decide) : PE X (.Call (.Name x p) [] [] pos) (tMakeX C sp dvs E tNil) := by
  obtain ⟨f, fd, ds, F, M, hb, hd⟩ := h
  intro pins s σ H Q I h
  refine wpAny_Call_Name_kw (ld_glob I hg hm ?_ hdb)
  exact PySem.W.callWith_K0 I.kIn M.kp (run_makeX (us := []) M F hr hb hd (fun H2 s2 e s' J z => hx pins σ H2 s2 e s' J z) I .nil h)
end
end L2

set_option maxHeartbeats 4000000
namespace L2
open PySem PySem.Spec PyProof.Rows
theorem kas_sort2 : PySem.W.kas_sort 2 = .ask 1 0 fun c => if c = true then .ret #[1, 0] else .ret #[0, 1] := by
  show PySem.W.KasT.ask 1 0 _ = PySem.W.KasT.ask 1 0 _
  congr 1
  funext c
  cases c <;> rfl
section
variable {prog : Program} {w : World} {A : Around} {E : Value → Shared → Prop} {s : Shared}
theorem list_sort_two {a : Addr} {v₁ v₂ : Value} {n : Nat} {P : PySem.Fin → Shared → Prop} {P' : Bool → Prop} (ho : s.heap.get? a = some (seqObj "list" [v₁, v₂].toArray n))
    (ask : ∀ s' : Shared, s'.heap = ((s.heap.update a (Obj.mapSeq fun _ => (#[] : Array Value))).push (seqObj "tuple" [v₁, v₂].toArray 0)).push (seqObj "list" #[] 0) →
      wpAny (model prog w) A (keyKind' [v₁, v₂].toArray) (fun κ s1 => s1 = s' ∧ wpAny (model prog w) A (keyLt' κ v₂ v₁) (fun b s2 => s2 = s' ∧ P' b) (fun _ _ => False) s') (fun _ _ => False) s')
    (h : ∀ b, P' b → P (.done (.ret .none)) { s with heap := sortedHeap s.heap a [v₁, v₂] (if b = true then #[v₂, v₁] else #[v₁, v₂]) }) :
    wpAny (model prog w) A (Builtin.«list.sort» ⟨[.ref a], []⟩) P E s := by
  have ha : a < s.heap.objs.size := Heap.lt_size ho
  obtain ⟨e1, ho1⟩ : ∃ e1, (s.heap.update a (Obj.mapSeq fun _ => (#[] : Array Value))).get? a = some (seqObj "list" #[] e1) := ⟨_, get?_update_seq ho fun _ => #[]⟩
  rw [list_sort_plain]
  refine wpAny_bind (listItems_at ho rfl ?_)
  refine wpAny_bind (listUpdate_at ho rfl ?_)
  refine wpAny_bind (seqEpoch_at ho1 rfl ?_)
  refine wpAny_bind (wpAny_newTuple ?_)
  refine wpAny_bind (wpAny_newList ?_)
  refine wpAny_holding ?_
  have ho6 : (((s.heap.update a (Obj.mapSeq fun _ => (#[] : Array Value))).push (seqObj "tuple" [v₁, v₂].toArray 0)).push (seqObj "list" #[] 0)).get? a = some (seqObj "list" #[] e1) := by
    rw [Heap.get?_push_ne _ _ _ (by rw [size_push', Heap.size_update]; exact Nat.ne_of_lt (Nat.lt_succ_of_lt ha)), Heap.get?_push_ne _ _ _ (by rw [Heap.size_update]; exact Nat.ne_of_lt ha)]
    exact ho1
  show wpAny (model prog w) A _ P E { s with heap := ((s.heap.update a (Obj.mapSeq fun _ => (#[] : Array Value))).push (seqObj "tuple" [v₁, v₂].toArray 0)).push (seqObj "list" #[] 0) }
  dsimp only
  have hn2 : ¬ [v₁, v₂].toArray.size < 2 := by show ¬ 2 < 2; decide
  rw [if_neg hn2, if_neg hn2]
  refine wpAny_bind (wpAny_mono (ask _ rfl) (fun κ s0 hk => ?_) fun _ _ x => x.elim)
  obtain ⟨rfl, hk⟩ := hk
  refine wpAny_bind (wpAny_mono (PySem.W.kat_run (ks := [v₁, v₂]) (vs := [v₁, v₂]) (G := fun p s' => s' = { s with heap := ((s.heap.update a (Obj.mapSeq fun _ => (#[] : Array Value))).push (seqObj "tuple" [v₁, v₂].toArray 0)).push (seqObj "list" #[] 0) } ∧ ∃ b, P' b ∧ p = if b = true then #[1, 0] else #[0, 1])
    (Q := fun st' s' => s' = { s with heap := ((s.heap.update a (Obj.mapSeq fun _ => (#[] : Array Value))).push (seqObj "tuple" [v₁, v₂].toArray 0)).push (seqObj "list" #[] 0) } ∧ failedOf st' = none ∧ ∃ b, P' b ∧ (arrOf st').map (·.2) = if b = true then #[v₂, v₁] else #[v₁, v₂])
    rfl (Nat.le_refl _) (by show 2 < 64; decide) (fun p' st' s' a1 a2 a3 a4 => ?_) ?_) ?_ fun _ _ e => e)
  · obtain ⟨rfl, b, pb, rfl⟩ := a4
    refine ⟨rfl, a3, b, pb, ?_⟩
    rw [PySem.W.kat_snds rfl a2]
    cases b <;> rfl
  · show (PySem.W.kas_sort 2).kasWp _ _ _
    rw [kas_sort2]
    refine wpAny_mono hk (fun b s2 z => ?_) fun _ _ x => x
    obtain ⟨rfl, pb⟩ := z
    cases b
    · exact ⟨rfl, false, pb, rfl⟩
    · exact ⟨rfl, true, pb, rfl⟩
  · rintro ⟨⟨⟩, st'⟩ s' ⟨rfl, hf, b, pb, hout⟩
    dsimp only
    refine wpAny_bind (seqEpoch_at ho6 rfl ?_)
    refine wpAny_bind (listUpdate_at ho6 rfl ?_ (hsz2 := by rw [hout]; cases b <;> (show 2 ≤ _; rw [sizeLine_eq]; decide)))
    rw [hf, hout]
    simp only [bne_self_eq_false, Bool.false_eq_true, if_false]
    exact wpAny_pure (h b pb)
theorem tup_lt {t1 t2 : Addr} {x y : Str} {k1 k2 : Tok} {r1 r2 : List Value} {Q : Bool → Shared → Prop} (h1 : IsTup s.heap t1 (Value.str x k1 :: r1).toArray) (h2 : IsTup s.heap t2 (Value.str y k2 :: r2).toArray) (ne : x ≠ y) (q : Q (decide (x.cps.toList < y.cps.toList)) s) :
    wpAny (model prog w) A (keyLt' (tuples' true) (.ref t1) (.ref t2)) Q E s := by
  obtain ⟨o1, e1, c1, n1, d1⟩ := h1
  obtain ⟨o2, e2, c2, n2, d2⟩ := h2
  refine PySem.W.kat_lt e1 d1 e2 d2 ?_
  show PySem.W.KatLex _ _ _ _ _ _ ((Value.str x k1, Value.str y k2) :: r1.zip r2) 0 s
  refine PySem.W.kat_cons (wpAny_eqBool_str ?_)
  rw [decide_eq_false ne]
  exact PySem.W.kat_no (oneLt_str q)
theorem tup_kind {t1 t2 : Addr} {x y : Str} {k1 k2 : Tok} {r1 r2 : List Value} {Q : SortKind → Shared → Prop} (h1 : IsTup s.heap t1 (Value.str x k1 :: r1).toArray) (h2 : IsTup s.heap t2 (Value.str y k2 :: r2).toArray) (q : Q (tuples' true) s) :
    wpAny (model prog w) A (keyKind' [Value.ref t1, Value.ref t2].toArray) Q E s := by
  obtain ⟨o1, e1, c1, n1, d1⟩ := h1
  obtain ⟨o2, e2, c2, n2, d2⟩ := h2
  refine PySem.W.kat_kind (fs := [.str x k1, .str y k2]) (T := .type "str") (.cons e1 c1 d1 rfl (.cons e2 c2 d2 rfl .nil)) (by show 0 < 2; decide) (fun v hv => ?_) rfl q
  rcases List.mem_cons.mp hv with z | hv
  · rw [z]; exact PySem.W.Looks.of_pure rfl
  · rw [List.mem_singleton.mp hv]; exact PySem.W.Looks.of_pure rfl
end
section
variable {X : Cx}
theorem vals_cons {v : V} {vs : List V} {us : List Value} (r : Vals (v :: vs) us) : ∃ u us', us = u :: us' ∧ RelV v u ∧ Vals vs us' := by
  cases r with
  | cons a b => exact ⟨_, _, rfl, a, b⟩
theorem call_sorted2 : CallR X (.builtin "sorted") (fun xs H Q => ∃ (l t1 t2 : Addr) (x y : Str) (r1 r2 : List V), xs = [V.ref l] ∧ H l = some (.lst [.ref t1, .ref t2]) ∧ H t1 = some (.tup (.str x :: r1)) ∧ H t2 = some (.tup (.str y :: r2)) ∧ x ≠ y ∧
    ∀ p, H p = none → Q (.ref p) (upd H p (.lst (if y.cps.toList < x.cps.toList then [.ref t2, .ref t1] else [.ref t1, .ref t2])))) := by
  intro pins s σ H xs us Q I r h
  obtain ⟨l, t1, t2, x, y, r1, r2, rfl, hl, h1, h2, ne, q⟩ := h
  obtain ⟨u, rfl, rx⟩ := vals1 r
  cases rx
  obtain ⟨its, rv, pl, _⟩ := I.list (SqL.of (K := X.K) hl)
  obtain ⟨w1, u1, rfl, a1, rv⟩ := vals_cons rv
  obtain ⟨w2, u2, rfl, a2, rv⟩ := vals_cons rv
  cases rv
  cases a1
  cases a2
  obtain ⟨i1, v1, p1, _⟩ := I.tuple (SqT.of (K := X.K) h1)
  obtain ⟨w1, u1, rfl, a1, rv1⟩ := vals_cons v1
  obtain ⟨k1, rfl⟩ := a1
  obtain ⟨i2, v2, p2, _⟩ := I.tuple (SqT.of (K := X.K) h2)
  obtain ⟨w2, u2, rfl, a2, rv2⟩ := vals_cons v2
  obtain ⟨k2, rfl⟩ := a2
  refine Calls.call_function_entry kind_sorted plain_sorted entry_sorted (args_sorted1 _) ?_
  refine wpAny_bind (m := checkCount "sorted" 1 1 _) (wpAny_pure ?_)
  refine wpAny_bind (collect_list (vs := [.ref t1, .ref t2]) pl.isList ?_ (by rw [sizeLine_eq]; show 2 ≤ _; decide))
  refine wpAny_bind (wpAny_newList ?_ (by rw [sizeLine_eq]; show 2 ≤ _; decide))
  have hsz : ((s.heap.push (seqObj "list" #[] 0)).update s.heap.objs.size (Obj.mapSeq (· ++ [Value.ref t1, Value.ref t2].toArray))).objs.size = s.heap.objs.size + 1 := by
    rw [Heap.size_update, size_push']
  have kp0 : ∀ b o, s.heap.get? b = some o → (((s.heap.push (seqObj "list" #[] 0)).update s.heap.objs.size (Obj.mapSeq (· ++ [Value.ref t1, Value.ref t2].toArray))).push (seqObj "list" [Value.ref t1, Value.ref t2].toArray 0)).get? b = some o := fun b o e => by
    refine Heap.get?_push_of_some _ ?_
    rw [Heap.get?_update_other _ _ (Nat.ne_of_gt (Heap.lt_size e))]
    exact Heap.get?_push_of_some _ e
  have hoL : (((s.heap.push (seqObj "list" #[] 0)).update s.heap.objs.size (Obj.mapSeq (· ++ [Value.ref t1, Value.ref t2].toArray))).push (seqObj "list" [Value.ref t1, Value.ref t2].toArray 0)).get? (s.heap.objs.size + 1) = some (seqObj "list" [Value.ref t1, Value.ref t2].toArray 0) := by
    rw [← hsz]; exact Heap.get?_push_size _ rfl
  show wpAny _ _ _ _ _ { s with heap := ((s.heap.push (seqObj "list" #[] 0)).update s.heap.objs.size (Obj.mapSeq (· ++ [Value.ref t1, Value.ref t2].toArray))).push (seqObj "list" [Value.ref t1, Value.ref t2].toArray 0) }
  rw [hsz]
  have hs2 : (((s.heap.push (seqObj "list" #[] 0)).update s.heap.objs.size (Obj.mapSeq (· ++ [Value.ref t1, Value.ref t2].toArray))).push (seqObj "list" [Value.ref t1, Value.ref t2].toArray 0)).objs.size = s.heap.objs.size + 2 := by rw [size_push', hsz]
  generalize ((s.heap.push (seqObj "list" #[] 0)).update s.heap.objs.size (Obj.mapSeq (· ++ [Value.ref t1, Value.ref t2].toArray))).push (seqObj "list" [Value.ref t1, Value.ref t2].toArray 0) = h' at kp0 hoL hs2
  have kpS : ∀ (out : Array Value) b o, s.heap.get? b = some o → (sortedHeap h' (s.heap.objs.size + 1) [Value.ref t1, Value.ref t2] out).get? b = some o := fun out b o e => by
    have lt : b < s.heap.objs.size := Heap.lt_size e
    rw [sortedHeap_old (Nat.ne_of_lt (Nat.lt_succ_of_lt lt)) (by rw [hs2]; exact Nat.lt_of_lt_of_le lt (Nat.le_add_right _ 2))]
    exact kp0 b o e
  have kpA : ∀ s' : Shared, s'.heap = ((h'.update (s.heap.objs.size + 1) (Obj.mapSeq fun _ => (#[] : Array Value))).push (seqObj "tuple" [Value.ref t1, Value.ref t2].toArray 0)).push (seqObj "list" #[] 0) → ∀ b xs, IsTup s.heap b xs → IsTup s'.heap b xs := fun s' e b xs ⟨o, e1, c1, n1, d1⟩ => by
    refine ⟨o, ?_, c1, n1, d1⟩
    rw [e]
    refine Heap.get?_push_of_some _ (Heap.get?_push_of_some _ ?_)
    have lt : b < s.heap.objs.size := Heap.lt_size e1
    rw [Heap.get?_update_other _ _ (Nat.ne_of_gt (Nat.lt_succ_of_lt lt))]
    exact kp0 b o e1
  refine wpAny_bind (wpAny_holding (wpAny_call_entry slot_list_sort ⟨_, hoL, rfl⟩ entry_list_sort (list_sort_two (P' := fun b => b = decide (y.cps.toList < x.cps.toList)) hoL (fun s' e => ?_) fun b pb => ⟨.none, rfl, wpAny_pure ⟨_, rfl, ?_⟩⟩) (args_list_sort _)))
  · refine tup_kind (kpA s' e _ _ p1) (kpA s' e _ _ p2) ⟨rfl, ?_⟩
    exact tup_lt (kpA s' e _ _ p2) (kpA s' e _ _ p1) (Ne.symm ne) ⟨rfl, rfl⟩
  · subst pb
    obtain ⟨ee, he⟩ := sortedHeap_at (vs := [Value.ref t1, Value.ref t2]) (out := if decide (y.cps.toList < x.cps.toList) = true then #[.ref t2, .ref t1] else #[.ref t1, .ref t2]) hoL
    refine ⟨.ref (s.heap.objs.size + 1), _, I.laid (t' := s.toks) (kpS _) (Nat.le_succ _) (show ObjOk X.prog X.w _ _ _ (.lst (if y.cps.toList < x.cps.toList then [.ref t2, .ref t1] else [.ref t1, .ref t2])) from ⟨?_, (if decide (y.cps.toList < x.cps.toList) = true then [.ref t2, .ref t1] else [.ref t1, .ref t2]), ee, ?_, ?_⟩), rfl, q _ (I.hok.fresh (Nat.le_succ _))⟩
    · split <;> (rw [sizeLine_eq]; show 2 ≤ _; decide)
    · by_cases c : y.cps.toList < x.cps.toList
      · rw [if_pos c, if_pos (decide_eq_true c)]; exact .cons rfl (.cons rfl .nil)
      · rw [if_neg c, if_neg (by simpa using c)]; exact .cons rfl (.cons rfl .nil)
    · rw [he]
      by_cases c : y.cps.toList < x.cps.toList
      · rw [if_pos (decide_eq_true c), if_pos (decide_eq_true c)]
      · rw [if_neg (by simpa using c), if_neg (by simpa using c)]
end
end L2

set_option maxHeartbeats 4000000
namespace L2
open PySem PySem.Spec PyProof.Rows
section
variable {X : Cx}
def rIndexS : V → List V → Hp → VK → Prop := fun x vs H Q => ∃ (y z : Str) (i : Nat) (rest : List Nat), x = .str y ∧ vs = [.str z] ∧ Builtin.Str.occurrences y z 0 y.length 1 = i :: rest ∧ Q (.int i) H
theorem mt_indexS : MtM X "str.index" rIndexS := by
  intro pins s σ H x vs v us Q I rx rv h
  obtain ⟨y, z, i, rest, rfl, rfl, ho, q⟩ := h
  obtain ⟨t, rfl⟩ := rx
  obtain ⟨u, rfl, ru⟩ := vals1 rv
  obtain ⟨k, rfl⟩ := ru
  exact SC.index ho ⟨.int i, H, I.tok _, ⟨_, rfl⟩, q⟩
theorem op_mulS : OpR X (binaryOp .Mult) (fun x y H Q => ∃ z n, x = .str z ∧ y = .int n ∧ z.length ≤ 1000 ∧ 1 ≤ n ∧ n ≤ 1000 ∧ Q (.str (Txt.mul z n)) H) := by
  intro pins s σ H x y v u Q I rx ry h
  obtain ⟨z, n, rfl, rfl, hz, h1, h2, q⟩ := h
  obtain ⟨t, rfl⟩ := rx
  obtain ⟨t', rfl⟩ := ry
  refine SB.mul ⟨?_, fun _ _ => ?_, fun _ _ => ?_⟩ fun t' k => ⟨.str (Txt.mul z n), H, I.tok _, ⟨_, rfl⟩, q⟩
  · rw [decide_eq_false (by omega), decide_eq_false (by omega)]; rfl
  · have : 2 ^ 50 ≤ (2 ^ 63 - 1) / n := by
      rw [Int.le_ediv_iff_mul_le (by omega)]
      omega
    omega
  · have : z.length * n.toNat ≤ 1000 * 1000 := Nat.mul_le_mul hz (by omega)
    show decide (_ > sizeLine) = false
    rw [sizeLine_eq]
    exact decide_eq_false (by omega)
end
theorem slice_to {x : Str} {j : Int} (h0 : 0 ≤ j) (h1 : j ≤ x.length) : (Txt.slice x none (some j)).cps.toList = x.cps.toList.take j.toNat := by
  rw [eq_of_beq (slice_closes_toL h0 h1)]
  simp
theorem slice_from {x : Str} {i : Int} (h0 : 0 ≤ i) (h1 : i ≤ x.length) : (Txt.slice x (some i) none).cps.toList = x.cps.toList.drop i.toNat := by
  rw [eq_of_beq (slice_closes_fromL h0 h1 rfl)]
  have : x.cps.toList.length = x.length := by simp [Str.length]
  simp only [List.take_of_length_le (show (x.cps.toList.drop i.toNat).length ≤ ((x.length : Int) - i).toNat by rw [List.length_drop, this]; omega)]
theorem slice_to1 {x : Str} (h1 : 1 ≤ x.length) : (Txt.slice x none (some (-1))).cps.toList = x.cps.toList.take (x.length - 1) := by
  rw [eq_of_beq (slice_closes_to_neg (x := x) (j := -1) (by decide) (by omega) rfl)]
  have : (-1 + (x.length : Int)).toNat = x.length - 1 := by omega
  simp [this]
end L2

set_option maxHeartbeats 4000000
local macro_rules | `(tactic| walk_at "lk") => `(tactic| first | exact L2.lk_eq | (apply L2.lk_next; (first | done | decide +kernel); walk_at "lk") | exact rfl)
local macro_rules | `(tactic| walk_at "hp") => `(tactic| first | assumption | exact L2.upd_same | (apply L2.up_old; (first | done | assumption); walk_at "hp") | (apply L2.up_ne; (first | done | assumption); walk_at "hp"))
local macro_rules | `(tactic| walk_at "ty") => `(tactic| first | assumption | exact L2.TyE.of (L2.TyOf.int _) | exact L2.TyE.of (L2.TyOf.bl _) | exact L2.TyE.of L2.TyOf.non | exact L2.TyE.of (L2.TyOf.str _) | (apply L2.TyE.of; apply L2.TyOf.lst; walk_at "hp") | (apply L2.TyE.of; apply L2.TyOf.tup; walk_at "hp") | (apply L2.TyE.of; apply L2.TyOf.dK; walk_at "hp"))
local macro_rules | `(tactic| walk_at "cl") => `(tactic| first | (with_reducible show (_ : Int) ≤ _; omega) | (with_reducible show (_ : Int) < _; omega) | (with_reducible show (_ : Nat) ≤ _; omega) | (with_reducible show (_ : Nat) < _; omega) | (with_reducible assumption) | exact rfl | assumption | (with_reducible apply L2.SqL.of; walk_at "hp") | (with_reducible apply L2.SqT.of; walk_at "hp") | walk_at "hp" | ((with_reducible apply Or.inl); assumption) | ((with_reducible apply Or.inr); assumption) | (with_reducible apply Or.inl; with_reducible apply L2.SqL.of; walk_at "hp") | (with_reducible apply Or.inr; with_reducible apply L2.SqT.of; walk_at "hp") | (apply Or.inl; refine And.intro rfl ?_; apply Exists.intro; apply L2.SqL.of; walk_at "hp") | walk_at "lk" | walk_at "ty" | exact L2.kit_self _ _ | exact L2.kit_ib _ | exact L2.one_line | exact L2.small_line (Nat.le_of_ble_eq_true rfl) | (show List.length _ < _; exact Nat.le_of_ble_eq_true rfl) | omega | (apply Exists.intro; with_reducible apply L2.SqL.of; walk_at "hp") | (apply Exists.intro; with_reducible apply L2.SqT.of; walk_at "hp") | (apply Or.inr; refine ⟨?_, ?_⟩ <;> omega) | (apply Or.inl; refine ⟨?_, ?_⟩ <;> omega) | decide | (show (0 : Int) < _; first | decide | omega | assumption) | (refine ⟨?_, ?_⟩ <;> decide) | (refine ⟨?_, ?_, ?_⟩ <;> decide) )
local macro_rules | `(tactic| walk_at "sm") => `(tactic| first | assumption | exact L2.Same.refl _ | (apply L2.sm_upd; (first | done | assumption); walk_at "sm"))
local macro_rules | `(tactic| walk_at "ex") => `(tactic| ((fail_if_success (refine L2.exW ?_ ?_)); (fail_if_success (refine L2.exW2 ?_ ?_)); (fail_if_success (refine L2.exN ?_ ?_)); (fail_if_success (refine L2.exD ?_ ?_)); apply Exists.intro))
local macro_rules | `(tactic| walk_at "go") => `(tactic| repeat (first | (apply And.intro; (walk_at "cl")) | walk_at "ex"))
local macro_rules | `(tactic| walk_at "gi") => `(tactic| repeat (first | (apply And.intro; (walk_at "cl")) | walk_at "ex" | intro))
namespace K31
open PySem L2
def top (i : Nat) : Stmt := PySem.Challenge.pw_leafframe_k31_share_made.main.body.getD i (.Pass ⟨0, 0, 0, 0⟩)
abbrev s_check_rights : Stmt := top 10
abbrev s_Leaf___init__ : Stmt := inClass (top 11) 0
abbrev s_Fresh_row : Stmt := inClass (top 12) 0
abbrev s_check_name : Stmt := top 16
abbrev s_Share___init__ : Stmt := inClass (top 17) 0
abbrev s_Shares___init__ : Stmt := inClass (top 18) 0
abbrev s_Shares_fits : Stmt := inClass (top 18) 1
abbrev s_Shares_share : Stmt := inClass (top 18) 3
abbrev s_Shares_use : Stmt := inClass (top 18) 2
abbrev s_Shares_share_with : Stmt := inClass (top 18) 4
abbrev s_Shares_more : Stmt := inClass (top 18) 5
abbrev s_Shares_less : Stmt := inClass (top 18) 6
abbrev s_Shares_leaf : Stmt := inClass (top 18) 7
abbrev s_Shares_put : Stmt := inClass (top 18) 8
abbrev s_Shares_parts : Stmt := inClass (top 18) 9
abbrev s_Shares_rows : Stmt := inClass (top 18) 10
abbrev s__law_cell_at : Stmt := top 20
abbrev s__law_whole : Stmt := top 21
abbrev s__law_drawn : Stmt := top 22
abbrev s__law_name : Stmt := top 23
abbrev s__law_beside : Stmt := top 24
abbrev s__law_no_name : Stmt := top 25
abbrev s__law_refusal : Stmt := top 26
abbrev s__law_code : Stmt := top 27
abbrev s__law_rows : Stmt := top 28
abbrev s__law_fresh : Stmt := top 29
abbrev s__law_none_stands : Stmt := top 30
abbrev s_law : Stmt := top 31
abbrev n_check_rights : List Str := ["rights"]
theorem sc_check_rights : FnScope n_check_rights ["rights"] (defScope s_check_rights) := ⟨rfl, rfl, rfl, by decide +kernel, rfl, by decide +kernel, by decide +kernel⟩
abbrev n_Leaf___init__ : List Str := ["self", "rights"]
theorem sc_Leaf___init__ : FnScope n_Leaf___init__ ["self", "rights"] (defScope s_Leaf___init__) := ⟨rfl, rfl, rfl, by decide +kernel, rfl, by decide +kernel, by decide +kernel⟩
abbrev n_Fresh_row : List Str := ["self"]
theorem sc_Fresh_row : FnScope n_Fresh_row ["self"] (defScope s_Fresh_row) := ⟨rfl, rfl, rfl, by decide +kernel, rfl, by decide +kernel, by decide +kernel⟩
abbrev n_check_name : List Str := ["name", "letter"]
theorem sc_check_name : FnScope n_check_name ["name"] (defScope s_check_name) := ⟨rfl, rfl, rfl, by decide +kernel, rfl, by decide +kernel, by decide +kernel⟩
abbrev n_Share___init__ : List Str := ["self", "many"]
theorem sc_Share___init__ : FnScope n_Share___init__ ["self", "many"] (defScope s_Share___init__) := ⟨rfl, rfl, rfl, by decide +kernel, rfl, by decide +kernel, by decide +kernel⟩
abbrev n_Shares___init__ : List Str := ["self"]
theorem sc_Shares___init__ : FnScope n_Shares___init__ ["self"] (defScope s_Shares___init__) := ⟨rfl, rfl, rfl, by decide +kernel, rfl, by decide +kernel, by decide +kernel⟩
abbrev n_Shares_fits : List Str := ["self", "name", "many", "share"]
theorem sc_Shares_fits : FnScope n_Shares_fits ["self", "name", "many"] (defScope s_Shares_fits) := ⟨rfl, rfl, rfl, by decide +kernel, rfl, by decide +kernel, by decide +kernel⟩
abbrev n_Shares_share : List Str := ["self", "name"]
theorem sc_Shares_share : FnScope n_Shares_share ["self", "name"] (defScope s_Shares_share) := ⟨rfl, rfl, rfl, by decide +kernel, rfl, by decide +kernel, by decide +kernel⟩
abbrev n_Shares_use : List Str := ["self", "name", "many", "share"]
theorem sc_Shares_use : FnScope n_Shares_use ["self", "name", "many"] (defScope s_Shares_use) := ⟨rfl, rfl, rfl, by decide +kernel, rfl, by decide +kernel, by decide +kernel⟩
abbrev n_Shares_share_with : List Str := ["self", "name", "part", "share"]
theorem sc_Shares_share_with : FnScope n_Shares_share_with ["self", "name", "part"] (defScope s_Shares_share_with) := ⟨rfl, rfl, rfl, by decide +kernel, rfl, by decide +kernel, by decide +kernel⟩
abbrev n_Shares_more : List Str := ["self", "name", "share"]
theorem sc_Shares_more : FnScope n_Shares_more ["self", "name"] (defScope s_Shares_more) := ⟨rfl, rfl, rfl, by decide +kernel, rfl, by decide +kernel, by decide +kernel⟩
abbrev n_Shares_less : List Str := ["self", "name", "share"]
theorem sc_Shares_less : FnScope n_Shares_less ["self", "name"] (defScope s_Shares_less) := ⟨rfl, rfl, rfl, by decide +kernel, rfl, by decide +kernel, by decide +kernel⟩
abbrev n_Shares_leaf : List Str := ["self", "name", "part"]
theorem sc_Shares_leaf : FnScope n_Shares_leaf ["self", "name", "part"] (defScope s_Shares_leaf) := ⟨rfl, rfl, rfl, by decide +kernel, rfl, by decide +kernel, by decide +kernel⟩
abbrev n_Shares_put : List Str := ["self", "name", "part", "leaf", "share"]
theorem sc_Shares_put : FnScope n_Shares_put ["self", "name", "part", "leaf"] (defScope s_Shares_put) := ⟨rfl, rfl, rfl, by decide +kernel, rfl, by decide +kernel, by decide +kernel⟩
abbrev n_Shares_parts : List Str := ["self", "name"]
theorem sc_Shares_parts : FnScope n_Shares_parts ["self", "name"] (defScope s_Shares_parts) := ⟨rfl, rfl, rfl, by decide +kernel, rfl, by decide +kernel, by decide +kernel⟩
abbrev n_Shares_rows : List Str := ["self"]
theorem sc_Shares_rows : FnScope n_Shares_rows ["self"] (defScope s_Shares_rows) := ⟨rfl, rfl, rfl, by decide +kernel, rfl, by decide +kernel, by decide +kernel⟩
abbrev n__law_cell_at : List Str := ["_law_script", "_law_k"]
theorem sc__law_cell_at : FnScope n__law_cell_at ["_law_script", "_law_k"] (defScope s__law_cell_at) := ⟨rfl, rfl, rfl, by decide +kernel, rfl, by decide +kernel, by decide +kernel⟩
abbrev n__law_whole : List Str := ["_law_found"]
theorem sc__law_whole : FnScope n__law_whole ["_law_found"] (defScope s__law_whole) := ⟨rfl, rfl, rfl, by decide +kernel, rfl, by decide +kernel, by decide +kernel⟩
abbrev n__law_drawn : List Str := ["_law_cell", "_law_by", "_law_prime", "_law_many"]
theorem sc__law_drawn : FnScope n__law_drawn ["_law_cell", "_law_by", "_law_prime", "_law_many"] (defScope s__law_drawn) := ⟨rfl, rfl, rfl, by decide +kernel, rfl, by decide +kernel, by decide +kernel⟩
abbrev n__law_name : List Str := ["_law_cell", "_law_letters", "_law_size"]
theorem sc__law_name : FnScope n__law_name ["_law_cell"] (defScope s__law_name) := ⟨rfl, rfl, rfl, by decide +kernel, rfl, by decide +kernel, by decide +kernel⟩
abbrev n__law_beside : List Str := ["_law_name_here", "_law_cell", "_law_letters", "_law_at", "_law_other"]
theorem sc__law_beside : FnScope n__law_beside ["_law_name_here", "_law_cell"] (defScope s__law_beside) := ⟨rfl, rfl, rfl, by decide +kernel, rfl, by decide +kernel, by decide +kernel⟩
abbrev n__law_no_name : List Str := ["_law_name_here", "_law_cell", "_law_signs", "_law_way", "_law_at"]
theorem sc__law_no_name : FnScope n__law_no_name ["_law_name_here", "_law_cell"] (defScope s__law_no_name) := ⟨rfl, rfl, rfl, by decide +kernel, rfl, by decide +kernel, by decide +kernel⟩
abbrev n__law_refusal : List Str := ["_law_shares", "_law_way", "_law_name_here", "_law_many", "_law_refusal_here", "e"]
theorem sc__law_refusal : FnScope n__law_refusal ["_law_shares", "_law_way", "_law_name_here", "_law_many"] (defScope s__law_refusal) := ⟨rfl, rfl, rfl, by decide +kernel, rfl, by decide +kernel, by decide +kernel⟩
abbrev n__law_code : List Str := ["_law_refusal_here", "_law_found"]
theorem sc__law_code : FnScope n__law_code ["_law_refusal_here"] (defScope s__law_code) := ⟨rfl, rfl, rfl, by decide +kernel, rfl, by decide +kernel, by decide +kernel⟩
abbrev n__law_rows : List Str := ["_law_shares", "_law_due", "_law_found", "_law_k"]
theorem sc__law_rows : FnScope n__law_rows ["_law_shares", "_law_due"] (defScope s__law_rows) := ⟨rfl, rfl, rfl, by decide +kernel, rfl, by decide +kernel, by decide +kernel⟩
abbrev n__law_fresh : List Str := ["_law_shares", "_law_name_here", "_law_many", "_law_found"]
theorem sc__law_fresh : FnScope n__law_fresh ["_law_shares", "_law_name_here", "_law_many"] (defScope s__law_fresh) := ⟨rfl, rfl, rfl, by decide +kernel, rfl, by decide +kernel, by decide +kernel⟩
abbrev n__law_none_stands : List Str := ["_law_shares", "_law_name_here", "_law_many"]
theorem sc__law_none_stands : FnScope n__law_none_stands ["_law_shares", "_law_name_here", "_law_many"] (defScope s__law_none_stands) := ⟨rfl, rfl, rfl, by decide +kernel, rfl, by decide +kernel, by decide +kernel⟩
abbrev n_law : List Str := ["_law_script", "_law_name_here", "_law_other", "_law_many", "_law_unlike", "_law_less", "_law_shares", "_law_due", "_law_way", "_law_cell", "_law_wrong"]
theorem sc_law : FnScope n_law ["_law_script"] (defScope s_law) := ⟨rfl, rfl, rfl, by decide +kernel, rfl, by decide +kernel, by decide +kernel⟩
structure Adr where
  (c_LeafError c_NoStretch c_NoNumber c_NoRights c_NoName c_NoShare c_Unlike c_Leaf c_Fresh c_Share c_Shares : Addr)
structure Txt (K : PySem.W.Frag) (mg : Str → Option Value) (a : Adr) : Prop where
  cl_Leaf : Cls K a.c_Leaf
  cl_Fresh : Cls K a.c_Fresh
  cl_Share : Cls K a.c_Share
  cl_Shares : Cls K a.c_Shares
  n_Fresh_rights : NoAttr K a.c_Fresh "rights"
  n_Leaf_rights : NoAttr K a.c_Leaf "rights"
  n_Share_leaves : NoAttr K a.c_Share "leaves"
  n_Share_uses : NoAttr K a.c_Share "uses"
  n_Shares_kept : NoAttr K a.c_Shares "kept"
  x_LeafError : XCls K a.c_LeafError
  m_LeafError : mg "LeafError" = some (.ref a.c_LeafError)
  m_NoStretch : mg "NoStretch" = some (.ref a.c_NoStretch)
  m_NoNumber : mg "NoNumber" = some (.ref a.c_NoNumber)
  x_NoRights : XCls K a.c_NoRights
  m_NoRights : mg "NoRights" = some (.ref a.c_NoRights)
  x_NoName : XCls K a.c_NoName
  m_NoName : mg "NoName" = some (.ref a.c_NoName)
  x_NoShare : XCls K a.c_NoShare
  m_NoShare : mg "NoShare" = some (.ref a.c_NoShare)
  x_Unlike : XCls K a.c_Unlike
  m_Unlike : mg "Unlike" = some (.ref a.c_Unlike)
  m_Leaf : mg "Leaf" = some (.ref a.c_Leaf)
  m_Fresh : mg "Fresh" = some (.ref a.c_Fresh)
  m_Share : mg "Share" = some (.ref a.c_Share)
  m_Shares : mg "Shares" = some (.ref a.c_Shares)
  g_MOST_LETTERS : ∃ t, mg "MOST_LETTERS" = some (.int 8 t)
  g_BOTH_RIGHTS : ∃ t, mg "BOTH_RIGHTS" = some (.int 3 t)
  b_ValueError : mg "ValueError" = none
  b_bool : mg "bool" = none
  b_int : mg "int" = none
  b_isinstance : mg "isinstance" = none
  b_len : mg "len" = none
  b_list : mg "list" = none
  b_range : mg "range" = none
  b_sorted : mg "sorted" = none
  b_str : mg "str" = none
  b_tuple : mg "tuple" = none
  i_NoName : XIs K a.c_NoName
  i_Unlike : XIs K a.c_Unlike
  i_NoShare : XIs K a.c_NoShare
  isk : IsK K
  ti_Fresh : ∀ {H : Hp} {x dx : Addr} {fs : List (Str × V)}, H x = some (.ins a.c_Fresh dx fs) → TyE K H (.ref x) (.ref a.c_Fresh)
  k_Fresh_Fresh : PySem.W.kitOne K (.ref a.c_Fresh) (.ref a.c_Fresh) = some true
  s_NoName : PySem.W.mroIn K a.c_NoName (.ref a.c_LeafError) = some true
  s_Unlike : PySem.W.mroIn K a.c_Unlike (.ref a.c_LeafError) = some true
  s_NoShare : PySem.W.mroIn K a.c_NoShare (.ref a.c_LeafError) = some true
  e_NoName_NoName : PySem.W.kitOne K (.ref a.c_NoName) (.ref a.c_NoName) = some true
  e_NoName_Unlike : PySem.W.kitOne K (.ref a.c_NoName) (.ref a.c_Unlike) = some false
  e_NoName_NoShare : PySem.W.kitOne K (.ref a.c_NoName) (.ref a.c_NoShare) = some false
  e_Unlike_NoName : PySem.W.kitOne K (.ref a.c_Unlike) (.ref a.c_NoName) = some false
  e_Unlike_Unlike : PySem.W.kitOne K (.ref a.c_Unlike) (.ref a.c_Unlike) = some true
  e_Unlike_NoShare : PySem.W.kitOne K (.ref a.c_Unlike) (.ref a.c_NoShare) = some false
  e_NoShare_NoName : PySem.W.kitOne K (.ref a.c_NoShare) (.ref a.c_NoName) = some false
  e_NoShare_Unlike : PySem.W.kitOne K (.ref a.c_NoShare) (.ref a.c_Unlike) = some false
  e_NoShare_NoShare : PySem.W.kitOne K (.ref a.c_NoShare) (.ref a.c_NoShare) = some true
  v_NoName : PySem.W.kitOne K (.ref a.c_NoName) (.type "ValueError") = some true
  v_Unlike : PySem.W.kitOne K (.ref a.c_Unlike) (.type "ValueError") = some true
  v_NoShare : PySem.W.kitOne K (.ref a.c_NoShare) (.type "ValueError") = some true
  n_NoName : PySem.W.kitAny K (.ref a.c_NoName) [.ref a.c_NoNumber, .ref a.c_NoStretch] = some false
  n_Unlike : PySem.W.kitAny K (.ref a.c_Unlike) [.ref a.c_NoNumber, .ref a.c_NoStretch] = some false
  n_NoShare : PySem.W.kitAny K (.ref a.c_NoShare) [.ref a.c_NoNumber, .ref a.c_NoStretch] = some false
inductive Lf where
  | fresh (r : Int) | held (r f : Int) | out (r s : Int) | named (r : Int) (n : Str) (p : Int)
  deriving DecidableEq
def Lf.row : Lf → List V
  | .fresh r => [.str "fresh", .int r] | .held r f => [.str "held", .int r, .int f] | .out r s => [.str "out", .int r, .int s] | .named r n p => [.str "named", .int r, .str n, .int p]
def Lf.cls (a : Adr) : Lf → Addr
  | .fresh _ => a.c_Fresh
  | .held _ _ => 0
  | .out _ _ => 0
  | .named _ _ _ => 0
def Lf.fs : Lf → List (Str × V)
  | .fresh r => [("rights", .int r)] | .held r f => [("rights", .int r), ("frame", .int f)] | .out r s => [("rights", .int r), ("slot", .int s)] | .named r n p => [("rights", .int r), ("name", .str n), ("part", .int p)]
def Lf.kind : Lf → Nat
  | .fresh _ => 0 | .held _ _ => 1 | .out _ _ => 2 | .named _ _ _ => 3
def LfAt (a : Adr) (H : Hp) (x : Addr) (f : Lf) : Prop := ∃ dx, H x = some (.ins (f.cls a) dx f.fs)
theorem LfAt.same {a : Adr} {H H' : Hp} {x : Addr} {f : Lf} (h : LfAt a H x f) (s : Same H H') : LfAt a H' x f := let ⟨dx, e⟩ := h; ⟨dx, s _ _ e⟩
def OkR (r : Int) : Prop := 0 ≤ r ∧ r ≤ 3
instance (r : Int) : Decidable (OkR r) := by unfold OkR; infer_instance
def spRights (a : Adr) : Sp := fun vs H Q E => ∃ r : Int, vs = [.int r] ∧ (OkR r → Q .non H) ∧ (¬ OkR r → E (.ref a.c_NoRights) none H)
def spLeafInit (a : Adr) (K : PySem.W.Frag) : Sp := fun vs H Q E => ∃ (p dx C : Addr) (r : Int), vs = [.ref p, .int r] ∧ H p = some (.ins C dx []) ∧ Cls K C ∧ NoAttr K C "rights" ∧
  (OkR r → Q .non (upd H p (.ins C dx [("rights", .int r)]))) ∧ (¬ OkR r → E (.ref a.c_NoRights) none H)
def spRowK (a : Adr) (n : Nat) : Sp := fun vs H Q _ => ∃ (x : Addr) (g : Lf), vs = [.ref x] ∧ LfAt a H x g ∧ g.kind = n ∧ ∀ t, H t = none → Q (.ref t) (upd H t (.tup g.row))
section
variable {P : Program} {w : World} {K : PySem.W.Frag} {mg : Str → Option Value} {base : Heap} {a : Adr}
theorem ok_check_rights {dvs : List V} (R : RawF K mg "check_rights" s_check_rights ["rights"] dvs) (T : Txt K mg a) :
    HasFn P w K mg base 1 "check_rights" ["rights"] (spRights a) dvs := by
  refine R.ok sc_check_rights (fun vs H Q E h => ?_) (fun f cdv A outer s H vs Q E hr h => ?_)
  · obtain ⟨r, rfl, _⟩ := h
    rfl
  obtain ⟨r, rfl, k1, k2⟩ := h
  refine ⟨_, (@pss_one _ _ _ (ps_if (pt_not (pt_chain op_le op_le pe_int (pv 0) pe_int)) (@pss_one _ _ _ (ps_raise T.x_NoRights rfl (by rfl) T.m_NoRights pass_def (@pa_cn _ _ _ _ _ pe_str pa_nil rfl))) pss_nil)), ?_⟩
  walk_at "go"
  refine iteD (fun c0 => ?_) (fun c0 => ?_)
  · walk_at "go"
    exact iteN (fun c1 => ⟨one_line, k2 fun z => c1 z.2⟩) fun c1 => k1 ⟨c0, c1⟩
  · walk_at "go"
    exact k2 fun z => c0 z.1
theorem fk_Leaf___init__ {f : Addr} {oc : Value} {od : Option Addr} {dV kV doc pm : Value} {an : Option Addr} {cdv ct : Value} {osl : Array (Option Value)} (lk : K.lookup f = some ⟨oc, od, .func (PySem.W.fnOf "__init__" "Leaf.__init__" (defArgs s_Leaf___init__) (defBody s_Leaf___init__) (defScope s_Leaf___init__) dV kV doc pm an cdv ct), osl⟩) (hcd : PySem.W.codeIn K cdv "Leaf.__init__" = true) (T : Txt K mg a)
    (h_check_rights : HasFn P w K mg base 1 "check_rights" ["rights"] (spRights a) []) :
    FnOk P w K mg base (CXE P w) 2 f (PySem.W.fnOf "__init__" "Leaf.__init__" (defArgs s_Leaf___init__) (defBody s_Leaf___init__) (defScope s_Leaf___init__) dV kV doc pm an cdv ct) ["self", "rights"] (spLeafInit a K) := by
  refine fn_of lk hcd sc_Leaf___init__ (fun vs H Q E h => ?_) (fun A outer s H vs Q E hr h => ?_)
  · obtain ⟨p, dx, C, r, rfl, _⟩ := h
    rfl
  obtain ⟨p, dx, C, r, rfl, hp, t1, t2, k1, k2⟩ := h
  refine ⟨_, (@pss_cons _ _ _ _ _ (ps_expr (pe_fn h_check_rights (hr.mono (by decide)) (by rfl) pass_def (@pa_cn _ _ _ _ _ (pv 1) pa_nil rfl)))
      (@pss_one _ _ _ (ps_fld (pv 0) (pv 1) rfl))), ?_⟩
  walk_at "go"
  refine ⟨fun ok => ?_, fun bad => k2 bad⟩
  walk_at "go"
  exact k1 ok
theorem ok_Fresh_row {dvs : List V} (R : RawM K a.c_Fresh "row" "Fresh.row" s_Fresh_row ["self"] dvs) (T : Txt K mg a) :
    HasMe P w K mg base a.c_Fresh 1 "row" ["self"] (spRowK a 0) dvs := by
  refine R.ok sc_Fresh_row (fun vs H Q E h => ?_) (fun f cdv A outer s H vs Q E hr h => ?_)
  · obtain ⟨x, g, rfl, _⟩ := h
    rfl
  obtain ⟨x, g, rfl, S, hk, k⟩ := h
  refine ⟨_, (@pss_one _ _ _ (@ps_ret _ _ _ _ (@pe_tup _ _ _ _ _ (@pa_cn _ _ _ _ _ pe_str (@pa_cn _ _ _ _ _ (pe_fld (pv 0) rfl) pa_nil rfl) rfl)))), ?_⟩
  have d1 := T.cl_Fresh; have d2 := T.n_Fresh_rights
  cases g with
  | fresh r =>
    obtain ⟨dx, hx⟩ := S
    have hx : H x = some (.ins a.c_Fresh dx _) := hx
    unfold Lf.fs at hx
    walk_at "go"
    exact k
  | held _ _ => cases hk
  | out _ _ => cases hk
  | named _ _ _ => cases hk
end
def StrOk (x : Str) : Prop := PyData.canLay0 (.str x) = true
def Lf.dat : Lf → List PyData
  | .fresh r => [.str "fresh", .int r] | .held r f => [.str "held", .int r, .int f] | .out r s => [.str "out", .int r, .int s] | .named r n p => [.str "named", .int r, .str n, .int p]
def Lf.ok : Lf → Prop
  | .named _ n _ => StrOk n
  | _ => True
theorem Lf.datAll (K : PySem.W.Frag) (H : Hp) (g : Lf) : DatAll K H g.row g.dat := by
  cases g with
  | fresh r => exact .cons (.str _) (.cons (.int _) .nil)
  | held r f => exact .cons (.str _) (.cons (.int _) (.cons (.int _) .nil))
  | out r f => exact .cons (.str _) (.cons (.int _) (.cons (.int _) .nil))
  | named r n f => exact .cons (.str _) (.cons (.int _) (.cons (.str _) (.cons (.int _) .nil)))
theorem Lf.tid (g : Lf) (h : g.ok) : Tid 2 (.tuple g.dat) := by
  have s1 : ∀ x : Str, x = "fresh" ∨ x = "held" ∨ x = "out" ∨ x = "named" → Tid 1 (.str x) := fun x hx => by
    rcases hx with rfl | rfl | rfl | rfl <;> exact Tid.str (by decide +kernel)
  refine Tid.tuple fun d hd => ?_
  cases g with
  | fresh r =>
    simp [Lf.dat] at hd
    rcases hd with rfl | rfl
    · exact s1 _ (by simp)
    · exact Tid.int _
  | held r f =>
    simp [Lf.dat] at hd
    rcases hd with rfl | rfl | rfl
    · exact s1 _ (by simp)
    · exact Tid.int _
    · exact Tid.int _
  | out r f =>
    simp [Lf.dat] at hd
    rcases hd with rfl | rfl | rfl
    · exact s1 _ (by simp)
    · exact Tid.int _
    · exact Tid.int _
  | named r n f =>
    simp [Lf.dat] at hd
    rcases hd with rfl | rfl | rfl | rfl
    · exact s1 _ (by simp)
    · exact Tid.int _
    · exact Tid.str h
    · exact Tid.int _
end K31

set_option maxHeartbeats 4000000
namespace K31
open PySem L2
structure Bx (p : Prop) : Prop where
  o : p
theorem newO {H H' : Hp} {q : Addr} {o : HO} (hq : H q = none) (hh : upd H q o = H') : Same H H' ∧ H' q = some o := by subst hh; exact ⟨same_upd hq, upd_same⟩
theorem newI {H H' : Hp} {y dy : Addr} {o o1 o2 : HO} (hy : H y = none) (hdy : H dy = none) (hh : upd (upd (upd H dy o1) y o2) y o = H') : Same H H' ∧ H' y = some o := by
  subst hh
  refine ⟨fun b u e => ?_, upd_same⟩
  rw [upd_ne (ne_of_none e hy), upd_ne (ne_of_none e hy), upd_ne (ne_of_none e hdy)]; exact e
theorem op_le_str {X : Cx} : OpR X (compareOp .LtE) (fun x y H Q => ∃ i j, x = .str i ∧ y = .str j ∧ Q (.bl (!decide (j.cps.toList < i.cps.toList))) H) := by
  intro pins s σ H x y v u Q I rx ry h
  obtain ⟨i, j, rfl, rfl, q⟩ := h
  obtain ⟨t, rfl⟩ := rx
  obtain ⟨t', rfl⟩ := ry
  exact PySem.P.le_str (fin_bl I q rfl)
structure ShE where
  (x dx l : Addr)
  (ys : List Addr)
  (gs : List Lf)
  (u : Int)
structure ShEAt (a : Adr) (H : Hp) (e : ShE) : Prop where
  ob : H e.x = some (.ins a.c_Share e.dx [("leaves", .ref e.l), ("uses", .int e.u)])
  hl : H e.l = some (.lst (e.ys.map V.ref))
  len : e.ys.length = e.gs.length
  lf : ∀ (i : Nat) y g, e.ys[i]? = some y → e.gs[i]? = some g → LfAt a H y g
  le : e.gs.length ≤ 64
theorem ShEAt.same {a : Adr} {H H' : Hp} {e : ShE} (h : ShEAt a H e) (s : Same H H') : ShEAt a H' e := ⟨s _ _ h.ob, s _ _ h.hl, h.len, fun i y g h1 h2 => (h.lf i y g h1 h2).same s, h.le⟩
abbrev ShM := Str → Option (List Lf × Int)
def setM (m : ShM) (n : Str) (v : Option (List Lf × Int)) : ShM := fun k => if k = n then v else m k
theorem setM_self {m : ShM} {n : Str} {v : Option (List Lf × Int)} : setM m n v n = v := if_pos rfl
theorem ins_fs {C C' dx dx' : Addr} {fs fs' : List (Str × V)} (h : some (HO.ins C dx fs) = some (HO.ins C' dx' fs')) : fs = fs' := by injection h with h; injection h
theorem kept_leaves {d l : Addr} {u : Int} (h : ([("kept", .ref d)] : List (Str × V)) = ([("leaves", .ref l), ("uses", .int u)] : List (Str × V))) : False := by have := congrArg List.length h; simp at this
theorem lf_share {g : Lf} {l : Addr} {u : Int} (h : g.fs = ([("leaves", .ref l), ("uses", .int u)] : List (Str × V))) : False := by
  have k : ∀ v w : V, ((("rights" : Str), v) : Str × V) ≠ (("leaves" : Str), w) := fun v w e => absurd (Prod.mk.inj e).1 (by decide +kernel)
  cases g <;> exact k _ _ (List.cons.inj h).1
def ShKd (a : Adr) (o : HO) : Prop := (∃ dx d, o = .ins a.c_Shares dx [("kept", .ref d)]) ∨ (∃ kvs, o = .dK kvs) ∨ (∃ dx l u, o = .ins a.c_Share dx [("leaves", .ref l), ("uses", .int u)]) ∨ ∃ ys : List Addr, o = .lst (ys.map V.ref)
structure ShIn (a : Adr) (H : Hp) (p dx d : Addr) (kvs : List (Key × V)) (ks : List Str) (ent : Str → Option ShE) (fp : List Addr) : Prop where
  ob : H p = some (.ins a.c_Shares dx [("kept", .ref d)])
  hd : H d = some (.dK kvs)
  kk : kvs.map (·.1) = ks.map Sum.inr
  nd : ks.Nodup
  val : ∀ n, valV kvs (.inr n) = (ent n).map fun e => V.ref e.x
  at' : ∀ n e, ent n = some e → ShEAt a H e
  ap : ∀ n n' e e', ent n = some e → ent n' = some e' → n ≠ n' → e.x ≠ e'.x ∧ e.l ≠ e'.l
  sub : ∀ b, (b = p ∨ b = d ∨ ∃ n e, ent n = some e ∧ (b = e.x ∨ b = e.l)) → b ∈ fp
  live : ∀ b ∈ fp, ∃ u, H b = some u
  kd : ∀ b u, b ∈ fp → H b = some u → ShKd a u
def ShAt (a : Adr) (H : Hp) (p : Addr) (m : ShM) (fp : List Addr) : Prop := ∃ dx d kvs ks ent, ShIn a H p dx d kvs ks ent fp ∧ ∀ n, m n = (ent n).map fun e => (e.gs, e.u)
section
variable {a : Adr} {H H' : Hp} {p dx d : Addr} {kvs : List (Key × V)} {ks : List Str} {ent : Str → Option ShE} {fp : List Addr} {m : ShM}
theorem ShIn.same (S : ShIn a H p dx d kvs ks ent fp) (s : Same H H') : ShIn a H' p dx d kvs ks ent fp :=
  ⟨s _ _ S.ob, s _ _ S.hd, S.kk, S.nd, S.val, fun n e h => (S.at' n e h).same s, S.ap, S.sub, fun b hb => let ⟨u, e⟩ := S.live b hb; ⟨u, s _ _ e⟩, fun b u hb e => by
    obtain ⟨u0, e0⟩ := S.live b hb
    rw [s _ _ e0] at e; cases e
    exact S.kd b _ hb e0⟩
theorem ShAt.same (S : ShAt a H p m fp) (s : Same H H') : ShAt a H' p m fp := let ⟨dx, d, kvs, ks, ent, S, q⟩ := S; ⟨dx, d, kvs, ks, ent, S.same s, q⟩
theorem ShAt.live (S : ShAt a H p m fp) : ∀ b ∈ fp, ∃ u, H b = some u := let ⟨_, _, _, _, _, S, _⟩ := S; S.live
theorem ShIn.klen (S : ShIn a H p dx d kvs ks ent fp) : kvs.length = ks.length := by have := congrArg List.length S.kk; simpa using this
theorem ShIn.mem (S : ShIn a H p dx d kvs ks ent fp) (n : Str) : n ∈ ks ↔ ∃ e, ent n = some e := by
  have h1 : n ∈ ks ↔ (Sum.inr n : Key) ∈ kvs.map (·.1) := by
    rw [S.kk]
    exact ⟨fun h => List.mem_map.mpr ⟨n, h, rfl⟩, fun h => by obtain ⟨z, hz, e⟩ := List.mem_map.mp h; cases e; exact hz⟩
  rw [h1]
  have v := S.val n
  cases e : ent n with
  | none =>
    rw [e] at v
    exact ⟨fun h => absurd h (valV_not v), fun ⟨_, h⟩ => by cases h⟩
  | some z =>
    rw [e] at v
    exact ⟨fun _ => ⟨z, rfl⟩, fun _ => valV_in v⟩
theorem ShIn.chg {n : Str} {e e' : ShE} (S : ShIn a H p dx d kvs ks ent fp) (he : ent n = some e) (hx : e'.x = e.x) (hl : e'.l = e.l) (A : ShEAt a H' e') (kp : ∀ b u, H b = some u → b ≠ e.x → b ≠ e.l → H' b = some u) :
    ShIn a H' p dx d kvs ks (fun k => if k = n then some e' else ent k) fp := by
  have hA := S.at' n e he
  have d1 : d ≠ e.x := fun z => by have := hA.ob; rw [← z, S.hd] at this; cases this
  have d2 : d ≠ e.l := fun z => by have := hA.hl; rw [← z, S.hd] at this; cases this
  have p2 : p ≠ e.l := fun z => by have := hA.hl; rw [← z, S.ob] at this; cases this
  have xl : ∀ z w, ShEAt a H z → ShEAt a H w → z.x ≠ w.l := fun z w h1 h2 q => by have := h1.ob; rw [q, h2.hl] at this; cases this
  refine ⟨?_, kp _ _ S.hd d1 d2, S.kk, S.nd, fun k => ?_, fun k w h => ?_, fun k k' w w' h h' hn => ?_, fun b hb => S.sub b ?_, fun b hb => ?_, fun b u hb z => ?_⟩
  · by_cases q : p = e.x
    · have := hA.ob; rw [← q, S.ob] at this; exact (kept_leaves (ins_fs this)).elim
    · exact kp _ _ S.ob q p2
  · rw [S.val k]
    by_cases q : k = n
    · rw [if_pos q, q, he]; show some (V.ref e.x) = some (V.ref e'.x); rw [hx]
    · rw [if_neg q]
  · by_cases q : k = n
    · rw [if_pos q] at h; cases h; exact A
    · rw [if_neg q] at h
      have hw := S.at' k w h
      have hap := S.ap k n w e h he q
      have k1 : ∀ y g, LfAt a H y g → LfAt a H' y g := fun y g ⟨dy, z⟩ => ⟨dy, kp _ _ z (fun q => by
        have := hA.ob; rw [← q, z] at this
        exact (lf_share (ins_fs this)).elim) (fun q => by have := hA.hl; rw [← q, z] at this; cases this)⟩
      exact ⟨kp _ _ hw.ob hap.1 (xl w e hw hA), kp _ _ hw.hl (fun z => xl e w hA hw z.symm) hap.2, hw.len, fun i y g h1 h2 => k1 y g (hw.lf i y g h1 h2), hw.le⟩
  · by_cases q : k = n
    · rw [if_pos q] at h; cases h
      by_cases q' : k' = n
      · exact absurd (q.trans q'.symm) hn
      · rw [if_neg q'] at h'
        rw [hx, hl]; exact S.ap n k' e w' he h' fun z => q' z.symm
    · rw [if_neg q] at h
      by_cases q' : k' = n
      · rw [if_pos q'] at h'; cases h'
        rw [hx, hl]; exact S.ap k n w e h he q
      · rw [if_neg q'] at h'
        exact S.ap k k' w w' h h' hn
  · rcases hb with q | q | ⟨k, w, h, q⟩
    · exact .inl q
    · exact .inr (.inl q)
    · by_cases z : k = n
      · rw [if_pos z] at h; cases h
        rw [hx, hl] at q
        exact .inr (.inr ⟨n, e, he, q⟩)
      · rw [if_neg z] at h
        exact .inr (.inr ⟨k, w, h, q⟩)
  · by_cases q1 : b = e.x
    · exact ⟨_, by rw [q1, ← hx]; exact A.ob⟩
    · by_cases q2 : b = e.l
      · exact ⟨_, by rw [q2, ← hl]; exact A.hl⟩
      · obtain ⟨u, z⟩ := S.live b hb
        exact ⟨u, kp _ _ z q1 q2⟩
  · by_cases q1 : b = e.x
    · rw [q1, ← hx, A.ob] at z; cases z; exact .inr (.inr (.inl ⟨_, _, _, rfl⟩))
    · by_cases q2 : b = e.l
      · rw [q2, ← hl, A.hl] at z; cases z; exact .inr (.inr (.inr ⟨_, rfl⟩))
      · obtain ⟨u0, e0⟩ := S.live b hb
        rw [kp _ _ e0 q1 q2] at z; cases z
        exact S.kd b _ hb e0
theorem ShIn.add {n : Str} {e : ShE} (S : ShIn a H p dx d kvs ks ent fp) (he : ent n = none) (nx : H e.x = none) (nl : H e.l = none) (A : ShEAt a H' e) (kp : Same H H') :
    ShIn a (upd H' d (.dK (putK kvs (.inr n) (.ref e.x)))) p dx d (putK kvs (.inr n) (.ref e.x)) (ks ++ [n]) (fun k => if k = n then some e else ent k) (e.x :: e.l :: fp) := by
  have v0 : valV kvs (.inr n) = none := by rw [S.val n, he]; rfl
  have hd' := kp _ _ S.hd
  have dx' : ∀ w, ShEAt a H' w → w.x ≠ d ∧ w.l ≠ d := fun w h => ⟨fun z => (by have := h.ob; rw [z, hd'] at this; cases this), fun z => by have := h.hl; rw [z, hd'] at this; cases this⟩
  have up : ∀ w, ShEAt a H' w → ShEAt a (upd H' d (.dK (putK kvs (.inr n) (.ref e.x)))) w := fun w h =>
    ⟨by rw [upd_ne (dx' w h).1]; exact h.ob, by rw [upd_ne (dx' w h).2]; exact h.hl, h.len, fun i y g h1 h2 => by
      obtain ⟨dy, z⟩ := h.lf i y g h1 h2
      exact ⟨dy, by rw [upd_ne fun q => by rw [q, hd'] at z; cases z]; exact z⟩, h.le⟩
  have pd : p ≠ d := fun z => by have := S.ob; rw [z, S.hd] at this; cases this
  have isN : ∀ b, b ∈ fp → b ≠ e.x ∧ b ≠ e.l := fun b hb => by
    obtain ⟨u, z⟩ := S.live b hb
    exact ⟨ne_of_none z nx, ne_of_none z nl⟩
  refine ⟨by rw [upd_ne pd]; exact kp _ _ S.ob, upd_same, ?_, ?_, fun k => ?_, fun k w h => ?_, fun k k' w w' h h' hn => ?_, fun b hb => ?_, fun b hb => ?_, fun b u hb z => ?_⟩
  · have : (kvs.any fun kv => decide (kv.1 = (.inr n : Key))) = false := by rw [valV_any, v0]; rfl
    unfold putK
    rw [if_neg (by rw [this]; decide), List.map_append, List.map_append, S.kk]
    rfl
  · rw [List.nodup_append]
    refine ⟨S.nd, by simp, fun b hb c hc => ?_⟩
    rw [List.mem_singleton.mp hc]
    rintro rfl
    obtain ⟨z, hz⟩ := (S.mem b).mp hb
    rw [he] at hz; cases hz
  · rw [valV_put]
    by_cases q : k = n
    · rw [q, if_pos rfl, if_pos rfl]; rfl
    · rw [if_neg (fun z => q (by cases z; rfl)), if_neg q]; exact S.val k
  · by_cases q : k = n
    · rw [if_pos q] at h; cases h; exact up _ A
    · rw [if_neg q] at h; exact up _ ((S.at' k w h).same kp)
  · have old : ∀ k w, ent k = some w → w.x ≠ e.x ∧ w.l ≠ e.l := fun k w h => ⟨(isN _ (S.sub _ (.inr (.inr ⟨k, w, h, .inl rfl⟩)))).1, (isN _ (S.sub _ (.inr (.inr ⟨k, w, h, .inr rfl⟩)))).2⟩
    by_cases q : k = n
    · rw [if_pos q] at h; cases h
      by_cases q' : k' = n
      · exact absurd (q.trans q'.symm) hn
      · rw [if_neg q'] at h'
        exact ⟨(old k' w' h').1.symm, (old k' w' h').2.symm⟩
    · rw [if_neg q] at h
      by_cases q' : k' = n
      · rw [if_pos q'] at h'; cases h'
        exact old k w h
      · rw [if_neg q'] at h'
        exact S.ap k k' w w' h h' hn
  · rcases hb with q | q | ⟨k, w, h, q⟩
    · exact .tail _ (.tail _ (S.sub b (.inl q)))
    · exact .tail _ (.tail _ (S.sub b (.inr (.inl q))))
    · by_cases z : k = n
      · rw [if_pos z] at h; cases h
        rcases q with q | q
        · rw [q]; exact .head _
        · rw [q]; exact .tail _ (.head _)
      · rw [if_neg z] at h
        exact .tail _ (.tail _ (S.sub b (.inr (.inr ⟨k, w, h, q⟩))))
  · rcases List.mem_cons.mp hb with q | hb
    · exact ⟨_, by rw [q, upd_ne (dx' e A).1]; exact A.ob⟩
    · rcases List.mem_cons.mp hb with q | hb
      · exact ⟨_, by rw [q, upd_ne (dx' e A).2]; exact A.hl⟩
      · by_cases q : b = d
        · rw [q]; exact ⟨_, upd_same⟩
        · obtain ⟨u, z⟩ := S.live b hb
          exact ⟨u, by rw [upd_ne q]; exact kp _ _ z⟩
  · by_cases q : b = d
    · rw [q, upd_same] at z; cases z; exact .inr (.inl ⟨_, rfl⟩)
    · rw [upd_ne q] at z
      rcases List.mem_cons.mp hb with w | hb
      · rw [w, A.ob] at z; cases z; exact .inr (.inr (.inl ⟨_, _, _, rfl⟩))
      · rcases List.mem_cons.mp hb with w | hb
        · rw [w, A.hl] at z; cases z; exact .inr (.inr (.inr ⟨_, rfl⟩))
        · obtain ⟨u0, e0⟩ := S.live b hb
          rw [kp _ _ e0] at z; cases z
          exact S.kd b _ hb e0
theorem valV_dropS (kvs : List (Key × V)) (k j : Key) : valV (dropK kvs k) j = if j = k then none else valV kvs j := by
  induction kvs with
  | nil => unfold valV dropK; simp
  | cons p r ih =>
    by_cases e : p.1 = k
    · rw [dropK_pos e, ih]
      by_cases q : j = k
      · rw [if_pos q, if_pos q]
      · rw [if_neg q, if_neg q]
        unfold valV
        rw [List.find?_cons_of_neg]
        simpa using fun z : p.1 = j => q (z.symm.trans e)
    · rw [dropK_neg e]
      by_cases z : p.1 = j
      · subst z
        rw [if_neg e]
        unfold valV
        rw [List.find?_cons_of_pos (by simp), List.find?_cons_of_pos (by simp)]
      · have e1 : valV (p :: dropK r k) j = valV (dropK r k) j := by
          unfold valV; rw [List.find?_cons_of_neg (by simpa using z)]
        have e2 : valV (p :: r) j = valV r j := by
          unfold valV; rw [List.find?_cons_of_neg (by simpa using z)]
        rw [e1, e2, ih]
theorem ShIn.del {n : Str} (S : ShIn a H p dx d kvs ks ent fp) : ShIn a (upd H d (.dK (dropK kvs (.inr n)))) p dx d (dropK kvs (.inr n)) (ks.filter fun k => decide (k ≠ n)) (fun k => if k = n then none else ent k) fp := by
  have pd : p ≠ d := fun z => by have := S.ob; rw [z, S.hd] at this; cases this
  have up : ∀ w, ShEAt a H w → ShEAt a (upd H d (.dK (dropK kvs (.inr n)))) w := fun w h =>
    ⟨by rw [upd_ne fun z => by have := h.ob; rw [z, S.hd] at this; cases this]; exact h.ob, by rw [upd_ne fun z => by have := h.hl; rw [z, S.hd] at this; cases this]; exact h.hl, h.len, fun i y g h1 h2 => by
      obtain ⟨dy, z⟩ := h.lf i y g h1 h2
      exact ⟨dy, by rw [upd_ne fun q => by rw [q, S.hd] at z; cases z]; exact z⟩, h.le⟩
  have inv : ∀ k w, (if k = n then none else ent k) = some w → k ≠ n ∧ ent k = some w := fun k w h => by
    by_cases q : k = n
    · rw [if_pos q] at h; cases h
    · rw [if_neg q] at h; exact ⟨q, h⟩
  refine ⟨by rw [upd_ne pd]; exact S.ob, upd_same, ?_, S.nd.filter _, fun k => ?_, fun k w h => up w (S.at' k w (inv k w h).2), fun k k' w w' h h' hn => S.ap k k' w w' (inv k w h).2 (inv k' w' h').2 hn, fun b hb => ?_, fun b hb => ?_, fun b u hb z => ?_⟩
  · have : (dropK kvs (.inr n : Key)).map (·.1) = (kvs.map (·.1)).filter fun k => decide (k ≠ (.inr n : Key)) := by
      unfold dropK; rw [List.filter_map]; rfl
    rw [this, S.kk, List.filter_map]
    congr 1
    apply List.filter_congr
    intro x _
    simp
  · rw [valV_dropS]
    by_cases q : k = n
    · rw [q, if_pos rfl, if_pos rfl]; rfl
    · rw [if_neg (fun z => q (by cases z; rfl)), if_neg q]; exact S.val k
  · rcases hb with q | q | ⟨k, w, h, q⟩
    · exact S.sub b (.inl q)
    · exact S.sub b (.inr (.inl q))
    · exact S.sub b (.inr (.inr ⟨k, w, (inv k w h).2, q⟩))
  · by_cases q : b = d
    · rw [q]; exact ⟨_, upd_same⟩
    · obtain ⟨u, z⟩ := S.live b hb
      exact ⟨u, by rw [upd_ne q]; exact z⟩
  · by_cases q : b = d
    · rw [q, upd_same] at z; cases z; exact .inr (.inl ⟨_, rfl⟩)
    · rw [upd_ne q] at z; exact S.kd b _ hb z
theorem ShAt.keep (S : ShAt a H p m fp) (k1 : ∀ b u, H b = some u → b ∈ fp → H' b = some u) (k2 : ∀ y g, LfAt a H y g → LfAt a H' y g) : ShAt a H' p m fp := by
  obtain ⟨dx, d, kvs, ks, ent, S, hm⟩ := S
  have sx : ∀ {n e}, ent n = some e → e.x ∈ fp ∧ e.l ∈ fp := fun h => ⟨S.sub _ (.inr (.inr ⟨_, _, h, .inl rfl⟩)), S.sub _ (.inr (.inr ⟨_, _, h, .inr rfl⟩))⟩
  refine ⟨dx, d, kvs, ks, ent, ⟨k1 _ _ S.ob (S.sub _ (.inl rfl)), k1 _ _ S.hd (S.sub _ (.inr (.inl rfl))), S.kk, S.nd, S.val, fun n e h => ?_, S.ap, S.sub, fun b hb => let ⟨u, e⟩ := S.live b hb; ⟨u, k1 _ _ e hb⟩, fun b u hb e => ?_⟩, hm⟩
  · have A := S.at' n e h
    exact ⟨k1 _ _ A.ob (sx h).1, k1 _ _ A.hl (sx h).2, A.len, fun i y g h1 h2 => k2 y g (A.lf i y g h1 h2), A.le⟩
  · obtain ⟨u0, e0⟩ := S.live b hb
    rw [k1 _ _ e0 hb] at e; cases e
    exact S.kd b _ hb e0
end
end K31

set_option maxHeartbeats 4000000
namespace K31
open PySem L2
theorem comp_listI {K : PySem.W.Frag} {l acc : Addr} {xs : List V} {k : Nat} {te : TE} {σ : St} {H1 : Hp} {QH : Hp → Prop} (I : Nat → List V → Hp → Prop) (hn : xs.length < sizeLine) (h0 : I 0 [] (upd H1 acc (.lst [])))
    (sm : ∀ i ys H2, I i ys H2 → H2 acc = some (.lst ys) ∧ SqL K H2 l xs ∧ ys.length = i)
    (he : ∀ (i : Nat) (x : V) (ys : List V) (H2 : Hp), xs[i]? = some x → I i ys H2 → ∀ R : VK, (∀ v H6, H6 acc = some (.lst ys) → I (i + 1) (ys ++ [v]) (upd H6 acc (.lst (ys ++ [v]))) → R v H6) → te (some x :: σ) H2 R)
    (q : ∀ ys H2, I xs.length ys H2 → QH H2) (hk : k = 1 := by rfl) : ∃ (W : Nat → List V → Hp → Prop) (n' : Nat), W 0 [] (upd H1 acc (.lst [])) ∧
  ∀ i ys H2, W i ys H2 → H2 acc = some (.lst ys) ∧ ys.length < sizeLine ∧ ((i = n' ∧ (Itl K l).stop i H2 ∧ QH H2) ∨ (i < n' ∧ (Itl K l).go i H2 ∧ ∀ x H3, (Itl K l).yld i H2 x H3 → ∀ τ : St, τ.length = k → (gName 0) x (τ ++ σ) H3 fun τ2 H4 =>
    (∃ τ' : St, τ'.length = k ∧ τ2 = τ' ++ σ) ∧ tTrue τ2 H4 fun b H5 => if b = true then te τ2 H5 fun v H6 => H6 acc = some (.lst ys) ∧ W (i + 1) (ys ++ [v]) (upd H6 acc (.lst (ys ++ [v]))) else W (i + 1) ys H5)) := by
  subst hk
  refine ⟨fun i ys H2 => i ≤ xs.length ∧ I i ys H2, xs.length, ⟨Nat.zero_le _, h0⟩, ?_⟩
  rintro i ys H2 ⟨hi, hI⟩
  obtain ⟨m1, m2, m3⟩ := sm i ys H2 hI
  refine ⟨m1, by omega, ?_⟩
  by_cases hlt : i < xs.length
  · refine .inr ⟨hlt, ⟨xs, xs[i], m2, by simp [hlt]⟩, ?_⟩
    rintro x H3 ⟨rfl, hx⟩ τ hτ
    have hx := hx xs m2
    obtain ⟨t, rfl⟩ : ∃ t, τ = [t] := by
      match τ, hτ with
      | [t], _ => exact ⟨t, rfl⟩
    refine ⟨⟨[some x], rfl, rfl⟩, ?_⟩
    unfold tTrue
    simp only [if_true]
    exact he i x ys _ hx hI _ fun v H6 e1 e2 => ⟨e1, hlt, e2⟩
  · have e : i = xs.length := by omega
    subst e
    exact .inl ⟨rfl, ⟨xs, m2, Nat.le_refl _⟩, q ys H2 hI⟩
theorem comp_rangeI {lo : Int} {n k : Nat} {acc : Addr} {te : TE} {σ : St} {H1 : Hp} {QH : Hp → Prop} (I : Nat → List V → Hp → Prop) (hn : n < sizeLine) (h0 : I 0 [] (upd H1 acc (.lst [])))
    (sm : ∀ i ys H2, I i ys H2 → H2 acc = some (.lst ys) ∧ ys.length = i)
    (he : ∀ (i : Nat) (ys : List V) (H2 : Hp), i < n → I i ys H2 → ∀ R : VK, (∀ v H6, H6 acc = some (.lst ys) → I (i + 1) (ys ++ [v]) (upd H6 acc (.lst (ys ++ [v]))) → R v H6) → te (some (.int (lo + i)) :: σ) H2 R)
    (q : ∀ ys H2, I n ys H2 → QH H2) (hk : k = 1 := by rfl) : ∃ (W : Nat → List V → Hp → Prop) (n' : Nat), W 0 [] (upd H1 acc (.lst [])) ∧
  ∀ i ys H2, W i ys H2 → H2 acc = some (.lst ys) ∧ ys.length < sizeLine ∧ ((i = n' ∧ (Itr lo n).stop i H2 ∧ QH H2) ∨ (i < n' ∧ (Itr lo n).go i H2 ∧ ∀ x H3, (Itr lo n).yld i H2 x H3 → ∀ τ : St, τ.length = k → (gName 0) x (τ ++ σ) H3 fun τ2 H4 =>
    (∃ τ' : St, τ'.length = k ∧ τ2 = τ' ++ σ) ∧ tTrue τ2 H4 fun b H5 => if b = true then te τ2 H5 fun v H6 => H6 acc = some (.lst ys) ∧ W (i + 1) (ys ++ [v]) (upd H6 acc (.lst (ys ++ [v]))) else W (i + 1) ys H5)) := by
  subst hk
  refine ⟨fun i ys H2 => i ≤ n ∧ I i ys H2, n, ⟨Nat.zero_le _, h0⟩, ?_⟩
  rintro i ys H2 ⟨hi, hI⟩
  obtain ⟨m1, m3⟩ := sm i ys H2 hI
  refine ⟨m1, by omega, ?_⟩
  by_cases hlt : i < n
  · refine .inr ⟨hlt, hlt, ?_⟩
    rintro x H3 ⟨rfl, hx⟩ τ hτ
    subst hx
    obtain ⟨t, rfl⟩ : ∃ t, τ = [t] := by
      match τ, hτ with
      | [t], _ => exact ⟨t, rfl⟩
    refine ⟨⟨[some (.int (lo + i))], rfl, rfl⟩, ?_⟩
    unfold tTrue
    simp only [if_true]
    exact he i ys _ hlt hI _ fun v H6 e1 e2 => ⟨e1, hlt, e2⟩
  · have e : i = n := by omega
    subst e
    exact .inl ⟨rfl, Nat.le_refl _, q ys H2 hI⟩
theorem datAll_of {K : PySem.W.Frag} {H : Hp} : ∀ {xs : List V} {ds : List PyData}, xs.length = ds.length → (∀ (i : Nat) x d, xs[i]? = some x → ds[i]? = some d → DatV K H x d) → DatAll K H xs ds
  | [], [], _, _ => .nil
  | [], _ :: _, h, _ => by cases h
  | _ :: _, [], h, _ => by cases h
  | x :: xs, d :: ds, h, f => .cons (f 0 x d rfl rfl) (datAll_of (Nat.succ.inj h) fun i x d e1 e2 => f (i + 1) x d (by simpa using e1) (by simpa using e2))
def NameOk (x : Str) : Prop := (1 ≤ (x.length : Int) ∧ (x.length : Int) ≤ 8) ∧ ∀ c ∈ x.cps.toList, 97 ≤ c ∧ c ≤ 122
def FewM (m : ShM) : Prop := ∃ L : List Str, L.length ≤ 100 ∧ ∀ n v, m n = some v → n ∈ L
theorem nodup_len {α : Type} [DecidableEq α] : ∀ {L M : List α}, L.Nodup → (∀ x ∈ L, x ∈ M) → L.length ≤ M.length
  | [], _, _, _ => Nat.zero_le _
  | x :: L, M, h, s => by
    have hx := s x (.head _)
    have h1 := List.nodup_cons.mp h
    have := nodup_len (M := M.erase x) h1.2 fun y hy => (List.mem_erase_of_ne (fun e : y = x => h1.1 (e ▸ hy))).mpr (s y (.tail _ hy))
    have l := List.length_erase_of_mem hx
    have p := List.length_pos_of_mem hx
    rw [List.length_cons]
    omega
theorem FewM.le {a : Adr} {H : Hp} {p dx d : Addr} {kvs : List (Key × V)} {ks : List Str} {ent : Str → Option ShE} {fp : List Addr} {m : ShM} (f : FewM m) (S : ShIn a H p dx d kvs ks ent fp) (hm : ∀ n, m n = (ent n).map fun e => (e.gs, e.u)) : kvs.length ≤ 100 := by
  obtain ⟨L, l1, l2⟩ := f
  rw [S.klen]
  refine Nat.le_trans ?_ l1
  refine nodup_len S.nd fun n hn => ?_
  obtain ⟨e, he⟩ := (S.mem n).mp hn
  exact l2 n _ (by rw [hm n, he]; rfl)
theorem le_a (c : Nat) : (!decide ((⟨#[c]⟩ : Str).cps.toList < (Str.ofString "a").cps.toList)) = decide (97 ≤ c) := by
  have e : (Str.ofString "a").cps.toList = [97] := by decide +kernel
  have e2 : (⟨#[c]⟩ : Str).cps.toList = [c] := rfl
  rw [e, e2, Bool.eq_iff_iff]
  simp [List.cons_lt_cons_iff]
theorem le_z (c : Nat) : (!decide ((Str.ofString "z").cps.toList < (⟨#[c]⟩ : Str).cps.toList)) = decide (c ≤ 122) := by
  have e : (Str.ofString "z").cps.toList = [122] := by decide +kernel
  have e2 : (⟨#[c]⟩ : Str).cps.toList = [c] := rfl
  rw [e, e2, Bool.eq_iff_iff]
  simp [List.cons_lt_cons_iff]
theorem made_sameS {H H' : Hp} {y dy C : Addr} (hy : H y = none) (hdy : H dy = none) (fr : ∀ b u, upd (upd H dy (.own y)) y (.ins C dy []) b = some u → b ≠ y → H' b = some u) : Same H H' :=
  fun b u e => fr b u (by rw [upd_ne (ne_of_none e hy), upd_ne (ne_of_none e hdy)]; exact e) (ne_of_none e hy)
theorem put_uses {l : Addr} {u u' : Int} : putF "uses" (.int u') ([("leaves", .ref l), ("uses", .int u)] : List (Str × V)) = ([("leaves", .ref l), ("uses", .int u')] : List (Str × V)) := by
  rw [pf_ne (by decide +kernel), pf_eq]
theorem ShIn.chgU {a : Adr} {H : Hp} {p dx d : Addr} {kvs : List (Key × V)} {ks : List Str} {ent : Str → Option ShE} {fp : List Addr} {n : Str} {e : ShE} (S : ShIn a H p dx d kvs ks ent fp) (he : ent n = some e) {u : Int} :
    ShIn a (upd H e.x (.ins a.c_Share e.dx [("leaves", .ref e.l), ("uses", .int u)])) p dx d kvs ks (fun k => if k = n then some ⟨e.x, e.dx, e.l, e.ys, e.gs, u⟩ else ent k) fp := by
  have A := S.at' n e he
  refine S.chg he rfl rfl ⟨upd_same, ?_, A.len, fun i y g h1 h2 => ?_, A.le⟩ fun b u e1 q1 q2 => by rw [upd_ne q1]; exact e1
  · rw [upd_ne fun z => by have := A.ob; rw [← z, A.hl] at this; cases this]; exact A.hl
  · obtain ⟨dy, z⟩ := A.lf i y g h1 h2
    exact ⟨dy, by rw [upd_ne fun q => by have := A.ob; rw [← q, z] at this; exact (lf_share (ins_fs this)).elim]; exact z⟩
def spChkName (a : Adr) : Sp := fun vs H Q E => ∃ x : Str, vs = [.str x] ∧ x.length ≤ sizeLine ∧ (NameOk x → Q .non H) ∧ (¬ NameOk x → E (.ref a.c_NoName) none H)
def spShareInit (a : Adr) : Sp := fun vs H Q _ => ∃ (p dx : Addr) (n : Int), vs = [.ref p, .int n] ∧ H p = some (.ins a.c_Share dx []) ∧ 0 ≤ n ∧ n ≤ 64 ∧
  ∀ (l : Addr) (ys : List Addr) (H' : Hp), H' p = some (.ins a.c_Share dx [("leaves", .ref l), ("uses", .int 0)]) → H' l = some (.lst (ys.map V.ref)) → ys.length = n.toNat → (∀ y ∈ ys, LfAt a H' y (.fresh 3)) → H l = none → (∀ b u, H b = some u → b ≠ p → H' b = some u) → Q .non H'
def spSInit (a : Adr) : Sp := fun vs H Q _ => ∃ (p dx : Addr), vs = [.ref p] ∧ H p = some (.ins a.c_Shares dx []) ∧
  ∀ fp H', ShAt a H' p (fun _ => none) fp → (∀ b u, H b = some u → b ≠ p → H' b = some u) → (∀ b ∈ fp, b = p ∨ H b = none) → Q .non H'
def spSFits (a : Adr) : Sp := fun vs H Q E => ∃ (p : Addr) (n : Str) (k : Int) (m : ShM) (fp : List Addr), vs = [.ref p, .str n, .int k] ∧ ShAt a H p m fp ∧ n.length ≤ sizeLine ∧
  (NameOk n → (∀ gs u, m n = some (gs, u) → (gs.length : Int) = k) → Q .non H) ∧ (¬ NameOk n → E (.ref a.c_NoName) none H) ∧ (NameOk n → ∀ gs u, m n = some (gs, u) → (gs.length : Int) ≠ k → E (.ref a.c_Unlike) none H)
def usedM (m : ShM) (n : Str) (k : Int) : ShM := match m n with
  | none => setM m n (some (List.replicate k.toNat (.fresh 3), k))
  | some (gs, u) => setM m n (some (gs, u + k))
def spSUse (a : Adr) : Sp := fun vs H Q E => ∃ (p : Addr) (n : Str) (k : Int) (m : ShM) (fp : List Addr), vs = [.ref p, .str n, .int k] ∧ ShAt a H p m fp ∧ n.length ≤ sizeLine ∧ 0 ≤ k ∧ k ≤ 64 ∧ FewM m ∧
  (NameOk n → (∀ gs u, m n = some (gs, u) → (gs.length : Int) = k) → ∀ fp' H', ShAt a H' p (usedM m n k) fp' → L2.Fr fp fp' H H' → Q .non H') ∧ (¬ NameOk n → E (.ref a.c_NoName) none H) ∧ (NameOk n → ∀ gs u, m n = some (gs, u) → (gs.length : Int) ≠ k → E (.ref a.c_Unlike) none H)
def spSShare (a : Adr) : Sp := fun vs H Q E => ∃ (p dx d : Addr) (kvs : List (Key × V)) (ks : List Str) (ent : Str → Option ShE) (fp : List Addr) (n : Str), vs = [.ref p, .str n] ∧ ShIn a H p dx d kvs ks ent fp ∧
  (∀ e, ent n = some e → Q (.ref e.x) H) ∧ (ent n = none → E (.ref a.c_NoShare) none H)
def spSWith (a : Adr) : Sp := fun vs H Q E => ∃ (p dx d : Addr) (kvs : List (Key × V)) (ks : List Str) (ent : Str → Option ShE) (fp : List Addr) (n : Str) (i : Int), vs = [.ref p, .str n, .int i] ∧ ShIn a H p dx d kvs ks ent fp ∧
  (∀ e, ent n = some e → (0 ≤ i ∧ i < (e.gs.length : Int)) → Q (.ref e.x) H) ∧ ((∀ e, ent n = some e → ¬ (0 ≤ i ∧ i < (e.gs.length : Int))) → E (.ref a.c_NoShare) none H)
def spSMore (a : Adr) : Sp := fun vs H Q E => ∃ (p : Addr) (n : Str) (m : ShM) (fp : List Addr), vs = [.ref p, .str n] ∧ ShAt a H p m fp ∧
  (∀ gs u, m n = some (gs, u) → ∀ H', ShAt a H' p (setM m n (some (gs, u + 1))) fp → L2.Fr fp fp H H' → Q .non H') ∧ (m n = none → E (.ref a.c_NoShare) none H)
structure LsAt (a : Adr) (H : Hp) (l : Addr) (ys : List Addr) (gs : List Lf) : Prop where
  hl : H l = some (.lst (ys.map V.ref))
  len : ys.length = gs.length
  lf : ∀ (i : Nat) y g, ys[i]? = some y → gs[i]? = some g → LfAt a H y g
def spSLess (a : Adr) : Sp := fun vs H Q E => ∃ (p : Addr) (n : Str) (m : ShM) (fp : List Addr), vs = [.ref p, .str n] ∧ ShAt a H p m fp ∧
  (∀ gs u, m n = some (gs, u) → 0 < u - 1 → ∀ q H', H' q = some (.lst []) → H q = none → q ∉ fp → ShAt a H' p (setM m n (some (gs, u - 1))) fp → L2.Fr fp fp H H' → Q (.ref q) H') ∧
  (∀ gs u, m n = some (gs, u) → ¬ 0 < u - 1 → ∀ q ys H', LsAt a H' q ys gs → H q = none → q ∉ fp → ShAt a H' p (setM m n none) fp → L2.Fr fp fp H H' → Q (.ref q) H') ∧ (m n = none → E (.ref a.c_NoShare) none H)
def spSLeaf (a : Adr) : Sp := fun vs H Q E => ∃ (p : Addr) (n : Str) (i : Int) (m : ShM) (fp : List Addr), vs = [.ref p, .str n, .int i] ∧ ShAt a H p m fp ∧
  (∀ gs u g, m n = some (gs, u) → 0 ≤ i → gs[i.toNat]? = some g → ∀ y, LfAt a H y g → Q (.ref y) H) ∧ ((∀ gs u, m n = some (gs, u) → ¬ (0 ≤ i ∧ i < (gs.length : Int))) → E (.ref a.c_NoShare) none H)
def spSPut (a : Adr) : Sp := fun vs H Q E => ∃ (p : Addr) (n : Str) (i : Int) (y : Addr) (g : Lf) (m : ShM) (fp : List Addr), vs = [.ref p, .str n, .int i, .ref y] ∧ ShAt a H p m fp ∧ LfAt a H y g ∧
  (∀ gs u, m n = some (gs, u) → (0 ≤ i ∧ i < (gs.length : Int)) → ∀ H', ShAt a H' p (setM m n (some (gs.set i.toNat g, u))) fp → L2.Fr fp fp H H' → Q .non H') ∧ ((∀ gs u, m n = some (gs, u) → ¬ (0 ≤ i ∧ i < (gs.length : Int))) → E (.ref a.c_NoShare) none H)
def spSParts (a : Adr) : Sp := fun vs H Q E => ∃ (p : Addr) (n : Str) (m : ShM) (fp : List Addr), vs = [.ref p, .str n] ∧ ShAt a H p m fp ∧
  (∀ gs u, m n = some (gs, u) → ∀ q ys H', LsAt a H' q ys gs → H q = none → Same H H' → Q (.ref q) H') ∧ (m n = none → E (.ref a.c_NoShare) none H)
section
variable {P : Program} {w : World} {K : PySem.W.Frag} {mg : Str → Option Value} {base : Heap} {a : Adr}
theorem ok_check_name {dvs : List V} (R : RawF K mg "check_name" s_check_name ["name"] dvs) (T : Txt K mg a) :
    HasFn P w K mg base 1 "check_name" ["name"] (spChkName a) dvs := by
  refine R.ok sc_check_name (fun vs H Q E h => ?_) (fun f cdv A outer s H vs Q E hr h => ?_)
  · obtain ⟨nm, rfl, _⟩ := h
    rfl
  obtain ⟨nm, rfl, nl, k1, k2⟩ := h
  refine ⟨_, (@pss_cons _ _ _ _ _ (ps_if (pt_not (pt_chain op_le op_le pe_int (pe_callB call_len_str (by rfl) T.b_len PySem.boot_len (@pa_cn _ _ _ _ _ (pv 0) pa_nil rfl)) (pe_globI (by rfl) T.g_MOST_LETTERS))) (@pss_one _ _ _ (ps_raise T.x_NoName rfl (by rfl) T.m_NoName pass_def (@pa_cn _ _ _ _ _ pe_str pa_nil rfl))) pss_nil)
      (@pss_one _ _ _ (ps_for own_def rfl (pi_str (pv 0)) (pg_name (i := 1) sc_check_name.nd rfl (by first | exact Or.inl rfl | exact Or.inr rfl))
      (@pss_one _ _ _ (ps_if (pt_not (pt_chain op_le_str op_le_str pe_str (pv 1) pe_str)) (@pss_one _ _ _ (ps_raise T.x_NoName rfl (by rfl) T.m_NoName pass_def (@pa_cn _ _ _ _ _ pe_str pa_nil rfl))) pss_nil))))), ?_⟩
  walk_at "go"
  refine iteD (fun c0 => ?_) (fun c0 => ?_)
  · walk_at "go"
    refine iteN (fun c1 => ⟨one_line, k2 fun z => c1 z.1.2⟩) fun c1 => ?_
    walk_at "go"
    refine for_str (fun i σ H' => Bx (H' = H ∧ (∃ v : Option V, σ = [some (.str nm), v]) ∧ ∀ j c, j < i → nm.cps[j]? = some c → 97 ≤ c ∧ c ≤ 122)) ⟨rfl, ⟨_, rfl⟩, fun j c z => absurd z (by omega)⟩ ?_ ?_
    · rintro i c σ H' hc ⟨rfl, ⟨v, rfl⟩, old⟩
      have mem : c ∈ nm.cps.toList := by
        obtain ⟨hl, e⟩ := Array.getElem?_eq_some_iff.mp hc
        rw [← e]; simp
      walk_at "go"
      rw [le_a]
      refine iteD (fun z => ?_) (fun z => ?_)
      · walk_at "go"
        rw [le_z]
        refine iteN (fun z2 => ?_) (fun z2 => ?_)
        · walk_at "go"
          exact k2 fun q => z2 (q.2 c mem).2
        · walk_at "go"
          refine ⟨rfl, ⟨_, rfl⟩, fun j c' hj hc' => ?_⟩
          by_cases q : j = i
          · rw [q, hc] at hc'; cases hc'; exact ⟨z, z2⟩
          · exact old j c' (by omega) hc'
      · walk_at "go"
        exact k2 fun q => z (q.2 c mem).1
    · rintro σ H' ⟨rfl, ⟨v, rfl⟩, old⟩
      walk_at "go"
      refine k1 ⟨⟨c0, c1⟩, fun c hc => ?_⟩
      obtain ⟨j, hj, e⟩ := List.mem_iff_getElem.mp hc
      exact old j c (by simpa using hj) (by rw [← e]; simp [Array.getElem?_eq_getElem (by simpa using hj)])
  · walk_at "go"
    exact k2 fun z => c0 z.1.1
theorem ok_Share___init__ {dvs : List V} (R : RawI K a.c_Share "Share.__init__" s_Share___init__ ["self", "many"] dvs) (T : Txt K mg a)
    (h_Fresh___init__ : HasMk P w K mg base a.c_Fresh 2 ["self", "rights"] (spLeafInit a K) []) :
    HasMk P w K mg base a.c_Share 4 ["self", "many"] (spShareInit a) dvs := by
  refine R.ok sc_Share___init__ (fun vs H Q E h => ?_) (fun f cdv A outer s H vs Q E hr h => ?_)
  · obtain ⟨p, dx, n, rfl, _⟩ := h
    rfl
  obtain ⟨p, dx, n, rfl, hp, n0, n64, k⟩ := h
  refine ⟨_, (pss_cons (ps_fld (pv 0) (pe_comp (xs := ["part"]) (N' := ["self", "many"]) rfl ⟨rfl, by decide +kernel, by decide +kernel, by dsimp only [cxOf, PyProof.Rows.envOfC]; decide +kernel, by decide +kernel, by dsimp only [cxOf]; decide +kernel, rfl⟩ (pi_range1 (by rfl) T.b_range (pa_cn (pv 1) pa_nil rfl)) (fun _ _ _ _ _ => (pg_name (i := 0) (by dsimp only [cxComp]; decide +kernel) rfl (by first | exact Or.inl rfl | exact Or.inr rfl))) (fun _ _ _ _ _ => pts_nil) (fun _ _ _ _ _ => (pe_mk h_Fresh___init__ (hr.mono (by decide)) (by rfl) (by exact T.m_Fresh) pass_none (pa_cn (pe_globI (by rfl) (by exact T.g_BOTH_RIGHTS)) pa_nil rfl)))) rfl)
      (pss_one (ps_fld (pv 0) pe_int rfl))), ?_⟩
  have t1 := T.cl_Share; have t2 := T.n_Share_leaves; have t3 := T.n_Share_uses
  have ok3 : OkR 3 := ⟨by decide, by decide⟩
  walk_at "go"
  intro l hl
  have lp : l ≠ p := fun z => by rw [z, hp] at hl; cases hl
  refine comp_rangeI (lo := 0) (n := n.toNat) (fun i zs H' => Bx (∃ ys : List Addr, zs = ys.map V.ref ∧ H' l = some (.lst (ys.map V.ref)) ∧ ys.length = i ∧ (∀ y ∈ ys, LfAt a H' y (.fresh 3)) ∧ ∀ b u, H b = some u → H' b = some u)) (by rw [sizeLine_eq]; omega) ⟨[], rfl, upd_same, rfl, fun y hy => (nomatch hy), same_upd hl⟩ ?_ ?_ ?_
  · rintro i zs H' ⟨ys, rfl, h1, h2, h3, h4⟩
    exact ⟨h1, by rw [List.length_map]; exact h2⟩
  · rintro i zs H1 hi ⟨ys, rfl, h1, h2, h3, h4⟩ R r
    walk_at "go"
    refine fun y dy hy hdy ne => ⟨y, dy, a.c_Fresh, 3, rfl, upd_same, T.cl_Fresh, T.n_Fresh_rights, fun _ => ⟨rfl, ?_⟩, fun z => absurd ok3 z⟩
    generalize hh : upd (upd (upd _ dy _) y _) y _ = H2
    obtain ⟨s2, e2⟩ := newI hy hdy hh
    clear hh
    have h12 := s2 _ _ h1
    refine r _ _ h12 ⟨ys ++ [y], by rw [List.map_append]; rfl, by rw [upd_same, List.map_append]; rfl, by rw [List.length_append, h2]; rfl, fun z hz => ?_, fun b u e => by rw [upd_ne (ne_of_none e hl)]; exact s2 _ _ (h4 _ _ e)⟩
    have lf : LfAt a H2 z (.fresh 3) := by
      rcases List.mem_append.mp hz with q | q
      · exact (h3 z q).same s2
      · rw [List.mem_singleton.mp q]; exact ⟨dy, e2⟩
    obtain ⟨dz, ez⟩ := lf
    exact ⟨dz, by rw [upd_ne fun q => by rw [q, h12] at ez; cases ez]; exact ez⟩
  · rintro zs H1 ⟨ys, rfl, h1, h2, h3, h4⟩
    have hp1 := h4 _ _ hp
    walk_at "go"
    have hp2 : upd H1 p (.ins a.c_Share dx [("leaves", .ref l)]) p = some (.ins a.c_Share dx [("leaves", .ref l)]) := upd_same
    walk_at "go"
    have pl : ∀ b u, H1 b = some u → b ≠ p → upd (upd H1 p (.ins a.c_Share dx [("leaves", .ref l)])) p (.ins a.c_Share dx [("leaves", .ref l), ("uses", .int 0)]) b = some u := fun b u e q => by rw [upd_ne q, upd_ne q]; exact e
    refine k l ys _ upd_same (pl _ _ h1 lp) h2 (fun y hy => ?_) hl fun b u e q => pl _ _ (h4 _ _ e) q
    obtain ⟨dy, e⟩ := h3 y hy
    exact ⟨dy, pl _ _ e fun z => by rw [z, hp1] at e; exact absurd (congrArg List.length (ins_fs e)) (by decide)⟩
theorem ok_Shares___init__ {dvs : List V} (R : RawI K a.c_Shares "Shares.__init__" s_Shares___init__ ["self"] dvs) (T : Txt K mg a) :
    HasMk P w K mg base a.c_Shares 1 ["self"] (spSInit a) dvs := by
  refine R.ok sc_Shares___init__ (fun vs H Q E h => ?_) (fun f cdv A outer s H vs Q E hr h => ?_)
  · obtain ⟨p, dx, rfl, _⟩ := h
    rfl
  obtain ⟨p, dx, rfl, hp, k⟩ := h
  refine ⟨_, (@pss_one _ _ _ (ps_fld (pv 0) pe_dnewK rfl)), ?_⟩
  have t1 := T.cl_Shares; have t2 := T.n_Shares_kept
  walk_at "go"
  intro d hd
  have pd : d ≠ p := fun z => by rw [z, hp] at hd; cases hd
  generalize hh : upd _ d _ = H1
  obtain ⟨s1, e1⟩ := newO hd hh
  clear hh
  have hp1 := s1 _ _ hp
  walk_at "go"
  refine k [p, d] _ ⟨dx, d, [], [], fun _ => none, ⟨upd_same, by rw [upd_ne pd]; exact e1, rfl, List.nodup_nil, fun n => rfl, fun n e h => (nomatch h), fun n n' e e' h => (nomatch h), fun b hb => ?_, fun b hb => ?_, fun b u hb z => ?_⟩, fun n => rfl⟩ (fun b u e q => by rw [upd_ne q]; exact s1 _ _ e) fun b hb => ?_
  · rcases hb with q | q | ⟨n, e, h, _⟩
    · rw [q]; exact .head _
    · rw [q]; exact .tail _ (.head _)
    · cases h
  · rcases List.mem_cons.mp hb with q | hb
    · rw [q]; exact ⟨_, upd_same⟩
    · rw [List.mem_singleton.mp hb]; exact ⟨_, by rw [upd_ne pd]; exact e1⟩
  · rcases List.mem_cons.mp hb with q | hb
    · rw [q, upd_same] at z; cases z; exact .inl ⟨_, _, rfl⟩
    · rw [List.mem_singleton.mp hb, upd_ne pd, e1] at z; cases z; exact .inr (.inl ⟨_, rfl⟩)
  · rcases List.mem_cons.mp hb with q | hb
    · exact .inl q
    · rw [List.mem_singleton.mp hb]; exact .inr hd
theorem ok_Shares_fits {dvs : List V} (R : RawM K a.c_Shares "fits" "Shares.fits" s_Shares_fits ["self", "name", "many"] dvs) (T : Txt K mg a)
    (h_check_name : HasFn P w K mg base 1 "check_name" ["name"] (spChkName a) []) :
    HasMe P w K mg base a.c_Shares 2 "fits" ["self", "name", "many"] (spSFits a) dvs := by
  refine R.ok sc_Shares_fits (fun vs H Q E h => ?_) (fun f cdv A outer s H vs Q E hr h => ?_)
  · obtain ⟨p, n, k, m, fp, rfl, _⟩ := h
    rfl
  obtain ⟨p, n, k, m, fp, rfl, S, nl, k1, k2, k3⟩ := h
  refine ⟨_, (@pss_cons _ _ _ _ _ (ps_expr (pe_fn h_check_name (hr.mono (by decide)) (by rfl) pass_def (@pa_cn _ _ _ _ _ (pv 1) pa_nil rfl)))
      (@pss_cons _ _ _ _ _ (@ps_set _ _ 3 _ _ _ _ sc_Shares_fits.nd rfl (by first | exact Or.inl rfl | exact Or.inr rfl) (pe_dget1 hr.u1 (pe_fld (pv 0) rfl) (pv 1) ⟨rfl, rfl, rfl, rfl⟩) (by rfl) (by first | exact Or.inl rfl | exact Or.inr rfl))
      (@pss_one _ _ _ (ps_if (PW.pt (pw_and (pt_cmpR op_notN (pv 3) pe_non (nomark _)) (pw_and1 (pt_cmpR op_ne (pe_callB call_len_seq (by rfl) T.b_len PySem.boot_len (@pa_cn _ _ _ _ _ (pe_fld (pv 3) rfl) pa_nil rfl)) (pv 2) (nomark _))))) (@pss_one _ _ _ (ps_raise T.x_Unlike rfl (by rfl) T.m_Unlike pass_def (@pa_cn _ _ _ _ _ pe_str pa_nil rfl))) pss_nil)))), ?_⟩
  have t1 := T.cl_Shares; have t2 := T.n_Shares_kept; have t3 := T.cl_Share; have t4 := T.n_Share_leaves
  obtain ⟨dx, d, kvs, ks, ent, S, hm⟩ := S
  have hp := S.ob
  have hd := S.hd
  have id1 : IsD H d := .inl ⟨kvs, Rd.of hd⟩
  have gg := DGet.k (k := Sum.inr n) hd
  rw [S.val n] at gg
  have hmn := hm n
  walk_at "go"
  refine ⟨fun ok => ?_, fun bad => k2 bad⟩
  cases he : ent n with
  | none =>
    rw [he] at gg hmn
    walk_at "go"
    exact k1 ok fun gs u h => by rw [hmn] at h; cases h
  | some e =>
    rw [he] at gg hmn
    have A := S.at' n e he
    have ho := A.ob
    have hl := A.hl
    have ll : (e.ys.map V.ref).length = e.gs.length := by rw [List.length_map]; exact A.len
    walk_at "go"
    rw [ll]
    refine iteN (fun c => ?_) (fun c => ?_)
    · walk_at "go"
      exact k3 ok e.gs e.u hmn fun z => c (by rw [z])
    · walk_at "go"
      refine k1 ok fun gs u h => ?_
      rw [hmn] at h; cases h
      injection c
theorem ok_Shares_share {dvs : List V} (R : RawM K a.c_Shares "share" "Shares.share" s_Shares_share ["self", "name"] dvs) (T : Txt K mg a) :
    HasMe P w K mg base a.c_Shares 1 "share" ["self", "name"] (spSShare a) dvs := by
  refine R.ok sc_Shares_share (fun vs H Q E h => ?_) (fun f cdv A outer s H vs Q E hr h => ?_)
  · obtain ⟨p, dx, d, kvs, ks, ent, fp, n, rfl, _⟩ := h
    rfl
  obtain ⟨p, dx, d, kvs, ks, ent, fp, n, rfl, S, k1, k2⟩ := h
  refine ⟨_, (@pss_cons _ _ _ _ _ (ps_if (pt_cmpR (op_notInD hr.u1) (pv 1) (pe_fld (pv 0) rfl) (by with_unfolding_all rfl)) (@pss_one _ _ _ (ps_raise T.x_NoShare rfl (by rfl) T.m_NoShare pass_def (@pa_cn _ _ _ _ _ pe_str pa_nil rfl))) pss_nil)
      (@pss_one _ _ _ (@ps_ret _ _ _ _ (pe_dget hr.u1 (pe_fld (pv 0) rfl) (pv 1) (fun _ _ => rfl))))), ?_⟩
  have t1 := T.cl_Shares; have t2 := T.n_Shares_kept
  have hp := S.ob
  have hd := S.hd
  have gg := DGet.k (k := Sum.inr n) hd
  rw [S.val n] at gg
  cases he : ent n with
  | none =>
    rw [he] at gg
    walk_at "go"
    exact k2 he
  | some e =>
    rw [he] at gg
    have gg' : DGet H d (.str n) (some (.ref e.x)) := gg
    walk_at "go"
    exact k1 e he
theorem ok_Shares_use {dvs : List V} (R : RawM K a.c_Shares "use" "Shares.use" s_Shares_use ["self", "name", "many"] dvs) (T : Txt K mg a)
    (h_Shares_fits : HasMe P w K mg base a.c_Shares 2 "fits" ["self", "name", "many"] (spSFits a) [])
    (h_Share___init__ : HasMk P w K mg base a.c_Share 4 ["self", "many"] (spShareInit a) [])
    (h_Shares_share : HasMe P w K mg base a.c_Shares 1 "share" ["self", "name"] (spSShare a) []) :
    HasMe P w K mg base a.c_Shares 6 "use" ["self", "name", "many"] (spSUse a) dvs := by
  refine R.ok sc_Shares_use (fun vs H Q E h => ?_) (fun f cdv A outer s H vs Q E hr h => ?_)
  · obtain ⟨p, n, k, m, fp, rfl, _⟩ := h
    rfl
  obtain ⟨p, n, k, m, fp, rfl, S, nl, k0, k64, few, k1, k2, k3⟩ := h
  refine ⟨_, (@pss_cons _ _ _ _ _ (ps_expr (pe_me (pv 0) T.cl_Shares h_Shares_fits (hr.mono (by decide)) pass_def (@pa_cn _ _ _ _ _ (pv 1) (@pa_cn _ _ _ _ _ (pv 2) pa_nil rfl) rfl)))
      (@pss_cons _ _ _ _ _ (ps_if (pt_cmpR (op_notInD hr.u1) (pv 1) (pe_fld (pv 0) rfl) (by with_unfolding_all rfl)) (@pss_one _ _ _ (@ps_dput _ _ _ _ _ _ _ _ _ hr.u1 (pe_fld (pv 0) rfl) (pv 1) (pe_mk h_Share___init__ (hr.mono (by decide)) (by rfl) T.m_Share pass_def (@pa_cn _ _ _ _ _ (pv 2) pa_nil rfl)) (by rfl))) pss_nil)
      (@pss_cons _ _ _ _ _ (@ps_set _ _ 3 _ _ _ _ sc_Shares_use.nd rfl (by first | exact Or.inl rfl | exact Or.inr rfl) (pe_me (pv 0) T.cl_Shares h_Shares_share (hr.mono (by decide)) pass_def (@pa_cn _ _ _ _ _ (pv 1) pa_nil rfl)) (by rfl) (by first | exact Or.inl rfl | exact Or.inr rfl))
      (@pss_one _ _ _ (ps_fld (pv 3) (pe_op op_add (pe_fld (pv 3) rfl) (pv 2)) rfl))))), ?_⟩
  have t1 := T.cl_Shares; have t2 := T.n_Shares_kept; have t3 := T.cl_Share; have t4 := T.n_Share_uses
  have SA := S
  obtain ⟨dx, d, kvs, ks, ent, S, hm⟩ := S
  have hp := S.ob
  have hd := S.hd
  have gg := DGet.k (k := Sum.inr n) hd
  have hv := S.val n
  rw [hv] at gg
  have hmn := hm n
  have few' := few.le S hm
  walk_at "go"
  refine ⟨fun ok fit => ?_, fun bad => k2 bad, fun ok gs u h ne => k3 ok gs u h ne⟩
  cases he : ent n with
  | none =>
    rw [he] at gg hmn hv
    walk_at "go"
    refine fun x dx' hx hdx ne => ⟨x, dx', k, rfl, upd_same, k0, k64, fun l ys H1 ob hl len lf nl' kp => ⟨rfl, ?_⟩⟩
    have s1 : Same H H1 := made_sameS hx hdx kp
    have hp1 := s1 _ _ hp
    have hd1 := s1 _ _ hd
    have l0 : H l = none := by
      cases e : H l with
      | none => rfl
      | some u => rw [upd_ne (ne_of_none e hx), upd_ne (ne_of_none e hdx), e] at nl'; cases nl'
    have A : ShEAt a H1 ⟨x, dx', l, ys, List.replicate k.toNat (.fresh 3), 0⟩ := ⟨ob, hl, by rw [List.length_replicate]; exact len, fun i y g h1 h2 => by
      rw [List.getElem?_replicate] at h2
      split at h2
      · cases h2; exact lf y (List.mem_of_getElem? h1)
      · exact (nomatch h2), by show (List.replicate k.toNat (Lf.fresh 3)).length ≤ 64; rw [List.length_replicate]; omega⟩
    have S2 : ShIn a (upd H1 d (.dK (putK kvs (.inr n) (.ref x)))) p dx d (putK kvs (.inr n) (.ref x)) (ks ++ [n]) (fun k' => if k' = n then some ⟨x, dx', l, ys, List.replicate k.toNat (.fresh 3), 0⟩ else ent k') (x :: l :: fp) := S.add he (e := ⟨x, dx', l, ys, List.replicate k.toNat (.fresh 3), 0⟩) hx l0 A s1
    have hp2 := S2.ob
    have dp : DPut H1 d (.str n) (.ref x) (upd H1 d (.dK (putK kvs (.inr n) (.ref x)))) := DPut.k (k := .inr n) hd1 (by rw [sizeLine_eq]; omega)
    have fr2 : L2.Fr fp (x :: l :: fp) H (upd H1 d (.dK (putK kvs (.inr n) (.ref x)))) := ⟨fun b u e q => by rw [upd_ne fun z => q (by rw [z]; exact S.sub d (.inr (.inl rfl)))]; exact s1 _ _ e, fun b hb => by
      rcases List.mem_cons.mp hb with q | hb
      · rw [q]; exact .inr hx
      · rcases List.mem_cons.mp hb with q | hb
        · rw [q]; exact .inr l0
        · exact .inl hb⟩
    walk_at "go"
    generalize upd H1 d (.dK (putK kvs (.inr n) (.ref x))) = H2 at S2 fr2
    refine ⟨fun e' h => ?_, fun z => (by rw [if_pos rfl] at z; cases z)⟩
    rw [if_pos rfl] at h; cases h
    have A2 := S2.at' n _ (if_pos rfl)
    have ho2 : H2 x = some (.ins a.c_Share dx' [("leaves", .ref l), ("uses", .int 0)]) := A2.ob
    walk_at "go"
    rw [put_uses]
    have hm' : m n = none := hmn
    refine k1 ok fit (x :: l :: fp) _ ⟨dx, d, _, _, _, S2.chgU (if_pos rfl) (u := 0 + k), fun k' => ?_⟩ (fr2.trans (Fr.put (.head _)))
    unfold usedM
    rw [hm']
    show setM m n _ k' = _
    unfold setM
    by_cases q : k' = n
    · rw [if_pos q, if_pos q, Int.zero_add]; rfl
    · rw [if_neg q, if_neg q, if_neg q]; exact hm k'
  | some e =>
    rw [he] at gg hmn hv
    have gg' : DGet H d (.str n) (some (.ref e.x)) := gg
    have A := S.at' n e he
    have ho := A.ob
    walk_at "go"
    refine ⟨fun e' h => ?_, fun z => (by rw [he] at z; cases z)⟩
    rw [he] at h; cases h
    walk_at "go"
    rw [put_uses]
    have hm' : m n = some (e.gs, e.u) := hmn
    refine k1 ok fit fp _ ⟨dx, d, kvs, ks, _, S.chgU he (u := e.u + k), fun k' => ?_⟩ (Fr.put (S.sub _ (.inr (.inr ⟨n, e, he, .inl rfl⟩))))
    unfold usedM
    rw [hm']
    show setM m n _ k' = _
    unfold setM
    by_cases q : k' = n
    · rw [if_pos q, if_pos q]; rfl
    · rw [if_neg q, if_neg q]; exact hm k'
end
end K31

set_option maxHeartbeats 4000000
namespace K31
open PySem L2
section
variable {P : Program} {w : World} {K : PySem.W.Frag} {mg : Str → Option Value} {base : Heap} {a : Adr}
theorem ok_Shares_share_with {dvs : List V} (R : RawM K a.c_Shares "share_with" "Shares.share_with" s_Shares_share_with ["self", "name", "part"] dvs) (T : Txt K mg a)
    (h_Shares_share : HasMe P w K mg base a.c_Shares 1 "share" ["self", "name"] (spSShare a) []) :
    HasMe P w K mg base a.c_Shares 2 "share_with" ["self", "name", "part"] (spSWith a) dvs := by
  refine R.ok sc_Shares_share_with (fun vs H Q E h => ?_) (fun f cdv A outer s H vs Q E hr h => ?_)
  · obtain ⟨p, dx, d, kvs, ks, ent, fp, n, i, rfl, _⟩ := h
    rfl
  obtain ⟨p, dx, d, kvs, ks, ent, fp, n, i, rfl, S, k1, k2⟩ := h
  refine ⟨_, (@pss_cons _ _ _ _ _ (@ps_set _ _ 3 _ _ _ _ sc_Shares_share_with.nd rfl (by first | exact Or.inl rfl | exact Or.inr rfl) (pe_me (pv 0) T.cl_Shares h_Shares_share (hr.mono (by decide)) pass_def (@pa_cn _ _ _ _ _ (pv 1) pa_nil rfl)) (by rfl) (by first | exact Or.inl rfl | exact Or.inr rfl))
      (@pss_cons _ _ _ _ _ (ps_if (pt_not (pt_chain op_le op_lt pe_int (pv 2) (pe_callB call_len_seq (by rfl) T.b_len PySem.boot_len (@pa_cn _ _ _ _ _ (pe_fld (pv 3) rfl) pa_nil rfl)))) (@pss_one _ _ _ (ps_raise T.x_NoShare rfl (by rfl) T.m_NoShare pass_def (@pa_cn _ _ _ _ _ pe_str pa_nil rfl))) pss_nil)
      (@pss_one _ _ _ (@ps_ret _ _ _ _ (pv 3))))), ?_⟩
  have t1 := T.cl_Shares; have t3 := T.cl_Share; have t4 := T.n_Share_leaves
  have hp := S.ob
  walk_at "go"
  refine ⟨fun e he => ?_, fun z => k2 fun e h => (by rw [z] at h; cases h)⟩
  have A := S.at' n e he
  have ho := A.ob
  have hl := A.hl
  have ll : (e.ys.map V.ref).length = e.gs.length := by rw [List.length_map]; exact A.len
  walk_at "go"
  refine iteD (fun c0 => ?_) (fun c0 => ?_)
  · walk_at "go"
    rw [ll]
    refine iteN (fun c1 => ?_) (fun c1 => ?_)
    · walk_at "go"
      exact k2 fun e' h z => (by rw [he] at h; cases h; exact c1 z.2)
    · walk_at "go"
      exact k1 e he ⟨c0, c1⟩
  · walk_at "go"
    exact k2 fun e' h z => c0 z.1
theorem ok_Shares_more {dvs : List V} (R : RawM K a.c_Shares "more" "Shares.more" s_Shares_more ["self", "name"] dvs) (T : Txt K mg a)
    (h_Shares_share : HasMe P w K mg base a.c_Shares 1 "share" ["self", "name"] (spSShare a) []) :
    HasMe P w K mg base a.c_Shares 2 "more" ["self", "name"] (spSMore a) dvs := by
  refine R.ok sc_Shares_more (fun vs H Q E h => ?_) (fun f cdv A outer s H vs Q E hr h => ?_)
  · obtain ⟨p, n, m, fp, rfl, _⟩ := h
    rfl
  obtain ⟨p, n, m, fp, rfl, S, k1, k2⟩ := h
  refine ⟨_, (@pss_cons _ _ _ _ _ (@ps_set _ _ 2 _ _ _ _ sc_Shares_more.nd rfl (by first | exact Or.inl rfl | exact Or.inr rfl) (pe_me (pv 0) T.cl_Shares h_Shares_share (hr.mono (by decide)) pass_def (@pa_cn _ _ _ _ _ (pv 1) pa_nil rfl)) (by rfl) (by first | exact Or.inl rfl | exact Or.inr rfl))
      (@pss_one _ _ _ (ps_fld (pv 2) (pe_op op_add (pe_fld (pv 2) rfl) pe_int) rfl))), ?_⟩
  have t1 := T.cl_Shares; have t3 := T.cl_Share; have t4 := T.n_Share_uses
  obtain ⟨dx, d, kvs, ks, ent, S, hm⟩ := S
  have hp := S.ob
  have hmn := hm n
  walk_at "go"
  refine ⟨fun e he => ?_, fun z => k2 (by rw [hmn, z]; rfl)⟩
  have A := S.at' n e he
  have ho := A.ob
  walk_at "go"
  rw [put_uses]
  refine k1 e.gs e.u (by rw [hmn, he]; rfl) _ ⟨dx, d, kvs, ks, _, S.chgU he (u := e.u + 1), fun k' => ?_⟩ (Fr.put (S.sub _ (.inr (.inr ⟨n, e, he, .inl rfl⟩))))
  unfold setM
  by_cases q : k' = n
  · rw [if_pos q, if_pos q]; rfl
  · rw [if_neg q, if_neg q]; exact hm k'
theorem ok_Shares_less {dvs : List V} (R : RawM K a.c_Shares "less" "Shares.less" s_Shares_less ["self", "name"] dvs) (T : Txt K mg a)
    (h_Shares_share : HasMe P w K mg base a.c_Shares 1 "share" ["self", "name"] (spSShare a) []) :
    HasMe P w K mg base a.c_Shares 2 "less" ["self", "name"] (spSLess a) dvs := by
  refine R.ok sc_Shares_less (fun vs H Q E h => ?_) (fun f cdv A outer s H vs Q E hr h => ?_)
  · obtain ⟨p, n, m, fp, rfl, _⟩ := h
    rfl
  obtain ⟨p, n, m, fp, rfl, S, k1, k2, k3⟩ := h
  refine ⟨_, (@pss_cons _ _ _ _ _ (@ps_set _ _ 2 _ _ _ _ sc_Shares_less.nd rfl (by first | exact Or.inl rfl | exact Or.inr rfl) (pe_me (pv 0) T.cl_Shares h_Shares_share (hr.mono (by decide)) pass_def (@pa_cn _ _ _ _ _ (pv 1) pa_nil rfl)) (by rfl) (by first | exact Or.inl rfl | exact Or.inr rfl))
      (@pss_cons _ _ _ _ _ (ps_fld (pv 2) (pe_op op_sub (pe_fld (pv 2) rfl) pe_int) rfl)
      (@pss_cons _ _ _ _ _ (ps_if (pt_cmpR op_gt (pe_fld (pv 2) rfl) pe_int (nomark _)) (@pss_one _ _ _ (@ps_ret _ _ _ _ (@pe_lst _ _ _ _ pa_nil))) pss_nil)
      (@pss_cons _ _ _ _ _ (ps_expr (pe_dpop1 (pe_fld (pv 0) rfl) (pv 1) ⟨rfl, rfl, rfl, rfl⟩))
      (@pss_one _ _ _ (@ps_ret _ _ _ _ (pe_callTy call_list_of (by rfl) T.b_list PyProof.Rows.Boot.«list» (@pa_cn _ _ _ _ _ (pe_fld (pv 2) rfl) pa_nil rfl)))))))), ?_⟩
  have t1 := T.cl_Shares; have t2 := T.n_Shares_kept; have t3 := T.cl_Share; have t4 := T.n_Share_uses; have t5 := T.n_Share_leaves
  obtain ⟨dx, d, kvs, ks, ent, S, hm⟩ := S
  have hp := S.ob
  have hmn := hm n
  walk_at "go"
  refine ⟨fun e he => ?_, fun z => k3 (by rw [hmn, z]; rfl)⟩
  have A := S.at' n e he
  have ho := A.ob
  walk_at "go"
  rw [put_uses]
  have S1 := S.chgU he (u := e.u - 1)
  have hx : e.x ∈ fp := S.sub _ (.inr (.inr ⟨n, e, he, .inl rfl⟩))
  have fr1 : L2.Fr fp fp H (upd H e.x (.ins a.c_Share e.dx [("leaves", .ref e.l), ("uses", .int (e.u - 1))])) := Fr.put hx
  have o1 : upd H e.x (.ins a.c_Share e.dx [("leaves", .ref e.l), ("uses", .int (e.u - 1))]) e.x = some (.ins a.c_Share e.dx [("leaves", .ref e.l), ("uses", .int (e.u - 1))]) := upd_same
  have A1 := S1.at' n _ (if_pos rfl)
  generalize upd H e.x (.ins a.c_Share e.dx [("leaves", .ref e.l), ("uses", .int (e.u - 1))]) = H1 at S1 fr1 o1 A1
  have hm1 : m n = some (e.gs, e.u) := by rw [hmn, he]; rfl
  have nfp : ∀ q, H1 q = none → q ∉ fp ∧ H q = none := fun q hq => ⟨fun z => (by obtain ⟨u, e⟩ := S1.live q z; rw [hq] at e; cases e), by
    cases e : H q with
    | none => rfl
    | some u =>
      by_cases z : q ∈ fp
      · obtain ⟨u, e⟩ := S1.live q z; rw [hq] at e; cases e
      · rw [fr1.1 _ _ e z] at hq; cases hq⟩
  walk_at "go"
  refine iteD (fun c => ?_) (fun c => ?_)
  · walk_at "go"
    intro q hq
    obtain ⟨q1, q2⟩ := nfp q hq
    refine k1 e.gs e.u hm1 c q _ upd_same q2 q1 ⟨dx, d, kvs, ks, _, S1.same (same_upd hq), fun k' => ?_⟩ (fr1.trans (Fr.same (same_upd hq)))
    unfold setM
    by_cases z : k' = n
    · rw [if_pos z, if_pos z]; rfl
    · rw [if_neg z, if_neg z]; exact hm k'
  · have hp1 := S1.ob
    have hd1 := S1.hd
    have id1 : IsD H1 d := .inl ⟨kvs, Rd.of hd1⟩
    have vv : valV kvs (.inr n) = some (.ref e.x) := by rw [S.val n, he]; rfl
    have kn : (V.str n) = kV (.inr n) := rfl
    have S2 := S1.del (n := n)
    have fr2 : L2.Fr fp fp H (upd H1 d (.dK (dropK kvs (.inr n)))) := fr1.trans (Fr.put (S.sub d (.inr (.inl rfl))))
    have dn : ∀ b u, H1 b = some u → (∀ ws, u ≠ .dK ws) → upd H1 d (.dK (dropK kvs (.inr n))) b = some u := fun b u e q => by rw [upd_ne fun z => q kvs (by rw [z, hd1] at e; cases e; rfl)]; exact e
    have o2 := dn _ _ o1 (by intro ws z; cases z)
    have hl2 : upd H1 d (.dK (dropK kvs (.inr n))) e.l = some (.lst (e.ys.map V.ref)) := dn _ _ A1.hl (by intro ws z; cases z)
    walk_at "go"
    have nfp2 : ∀ q, upd H1 d (.dK (dropK kvs (.inr n))) q = none → H1 q = none := fun q hq => by
      by_cases z : q = d
      · rw [z, upd_same] at hq; cases hq
      · rw [upd_ne z] at hq; exact hq
    intro q hq
    obtain ⟨q1, q2⟩ := nfp q (nfp2 q hq)
    have s3 : Same _ (upd (upd H1 d (.dK (dropK kvs (.inr n)))) q (.lst (e.ys.map V.ref))) := same_upd hq
    refine k2 e.gs e.u hm1 c q e.ys _ ⟨upd_same, A.len, fun i y g h1 h2 => ?_⟩ q2 q1 ⟨dx, d, _, _, _, S2.same s3, fun k' => ?_⟩ (fr2.trans (Fr.same s3))
    · obtain ⟨dy, z⟩ := A1.lf i y g h1 h2
      exact ⟨dy, s3 _ _ (dn _ _ z (by intro ws z; cases z))⟩
    · unfold setM
      by_cases z : k' = n
      · rw [if_pos z, if_pos z]; rfl
      · rw [if_neg z, if_neg z, if_neg z]; exact hm k'
theorem ok_Shares_leaf {dvs : List V} (R : RawM K a.c_Shares "leaf" "Shares.leaf" s_Shares_leaf ["self", "name", "part"] dvs) (T : Txt K mg a)
    (h_Shares_share_with : HasMe P w K mg base a.c_Shares 2 "share_with" ["self", "name", "part"] (spSWith a) []) :
    HasMe P w K mg base a.c_Shares 3 "leaf" ["self", "name", "part"] (spSLeaf a) dvs := by
  refine R.ok sc_Shares_leaf (fun vs H Q E h => ?_) (fun f cdv A outer s H vs Q E hr h => ?_)
  · obtain ⟨p, n, i, m, fp, rfl, _⟩ := h
    rfl
  obtain ⟨p, n, i, m, fp, rfl, S, k1, k2⟩ := h
  refine ⟨_, (@pss_one _ _ _ (@ps_ret _ _ _ _ (@pe_ix _ _ _ _ _ _ _ ix_list (pe_fld (pe_me (pv 0) T.cl_Shares h_Shares_share_with (hr.mono (by decide)) pass_def (@pa_cn _ _ _ _ _ (pv 1) (@pa_cn _ _ _ _ _ (pv 2) pa_nil rfl) rfl)) rfl) (pv 2) (fun _ _ => rfl)))), ?_⟩
  have t1 := T.cl_Shares; have t3 := T.cl_Share; have t5 := T.n_Share_leaves
  obtain ⟨dx, d, kvs, ks, ent, S, hm⟩ := S
  have hp := S.ob
  have hmn := hm n
  walk_at "go"
  refine ⟨fun e he hi => ?_, fun z => k2 fun gs u h q => ?_⟩
  · have A := S.at' n e he
    have ho := A.ob
    have hl := A.hl
    obtain ⟨j, rfl⟩ : ∃ j : Nat, i = (j : Int) := ⟨i.toNat, by omega⟩
    have jl : j < e.gs.length := by omega
    obtain ⟨y, hy⟩ : ∃ y, e.ys[j]? = some y := ⟨_, List.getElem?_eq_getElem (by rw [A.len]; exact jl)⟩
    have ay : atI (e.ys.map V.ref) (j : Int) = some (.ref y) := atI_nat (by rw [List.getElem?_map, hy]; rfl)
    walk_at "go"
    exact k1 e.gs e.u e.gs[j] (by rw [hmn, he]; rfl) (by omega) (by rw [Int.toNat_natCast]; exact List.getElem?_eq_getElem jl) y (A.lf j y _ hy (List.getElem?_eq_getElem jl))
  · rw [hmn] at h
    cases he : ent n with
    | none => rw [he] at h; cases h
    | some e => rw [he] at h; cases h; exact z e he q
theorem ok_Shares_put {dvs : List V} (R : RawM K a.c_Shares "put" "Shares.put" s_Shares_put ["self", "name", "part", "leaf"] dvs) (T : Txt K mg a)
    (h_Shares_share_with : HasMe P w K mg base a.c_Shares 2 "share_with" ["self", "name", "part"] (spSWith a) []) :
    HasMe P w K mg base a.c_Shares 3 "put" ["self", "name", "part", "leaf"] (spSPut a) dvs := by
  refine R.ok sc_Shares_put (fun vs H Q E h => ?_) (fun f cdv A outer s H vs Q E hr h => ?_)
  · obtain ⟨p, n, i, y, g, m, fp, rfl, _⟩ := h
    rfl
  obtain ⟨p, n, i, y, g, m, fp, rfl, S, lf, k1, k2⟩ := h
  refine ⟨_, (@pss_cons _ _ _ _ _ (@ps_set _ _ 4 _ _ _ _ sc_Shares_put.nd rfl (by first | exact Or.inl rfl | exact Or.inr rfl) (pe_me (pv 0) T.cl_Shares h_Shares_share_with (hr.mono (by decide)) pass_def (@pa_cn _ _ _ _ _ (pv 1) (@pa_cn _ _ _ _ _ (pv 2) pa_nil rfl) rfl)) (by rfl) (by first | exact Or.inl rfl | exact Or.inr rfl))
      (@pss_one _ _ _ (ps_asg (pv 3) (pg_sub (pe_fld (pv 4) rfl) (pv 2) set_list)))), ?_⟩
  have t1 := T.cl_Shares; have t3 := T.cl_Share; have t5 := T.n_Share_leaves
  obtain ⟨dx, d, kvs, ks, ent, S, hm⟩ := S
  have hp := S.ob
  have hmn := hm n
  walk_at "go"
  refine ⟨fun e he hi => ?_, fun z => k2 fun gs u h q => ?_⟩
  · have A := S.at' n e he
    have ho := A.ob
    have hl := A.hl
    obtain ⟨j, rfl⟩ : ∃ j : Nat, i = (j : Int) := ⟨i.toNat, by omega⟩
    have jl : j < e.gs.length := by omega
    have jy : j < e.ys.length := by rw [A.len]; exact jl
    have x1 : ixN (e.ys.map V.ref).length (j : Int) = some j := by
      unfold ixN
      rw [if_pos (by omega), if_pos (by rw [List.length_map]; omega), Int.toNat_natCast]
    walk_at "go"
    have es : (e.ys.map V.ref).set j (.ref y) = (e.ys.set j y).map V.ref := List.map_set.symm
    rw [es]
    have nl : ∀ b u, H b = some u → (∀ ws, u ≠ .lst ws) → upd H e.l (.lst ((e.ys.set j y).map V.ref)) b = some u := fun b u e1 q => by rw [upd_ne fun z => q _ (by rw [z, hl] at e1; cases e1; rfl)]; exact e1
    have A' : ShEAt a (upd H e.l (.lst ((e.ys.set j y).map V.ref))) ⟨e.x, e.dx, e.l, e.ys.set j y, e.gs.set j g, e.u⟩ := by
      refine ⟨nl _ _ ho (by intro ws z; cases z), upd_same, by show (e.ys.set j y).length = (e.gs.set j g).length; rw [List.length_set, List.length_set]; exact A.len, fun i' y' g' h1 h2 => ?_, by show (e.gs.set j g).length ≤ 64; rw [List.length_set]; exact A.le⟩
      have lf' : LfAt a H y' g' := by
        by_cases q : i' = j
        · rw [q] at h1 h2
          rw [List.getElem?_set_self jy] at h1
          rw [List.getElem?_set_self jl] at h2
          cases h1; cases h2; exact lf
        · rw [List.getElem?_set_ne (Ne.symm q)] at h1 h2
          exact A.lf i' y' g' h1 h2
      obtain ⟨dz, ez⟩ := lf'
      exact ⟨dz, nl _ _ ez (by intro ws z; cases z)⟩
    refine k1 e.gs e.u (by rw [hmn, he]; rfl) hi _ ⟨dx, d, kvs, ks, _, S.chg he (e' := ⟨e.x, e.dx, e.l, e.ys.set j y, e.gs.set j g, e.u⟩) rfl rfl A' (fun b u e1 q1 q2 => by rw [upd_ne q2]; exact e1), fun k' => ?_⟩ (Fr.put (S.sub _ (.inr (.inr ⟨n, e, he, .inr rfl⟩))))
    unfold setM
    by_cases z : k' = n
    · rw [if_pos z, if_pos z, Int.toNat_natCast]; rfl
    · rw [if_neg z, if_neg z]; exact hm k'
  · rw [hmn] at h
    cases he : ent n with
    | none => rw [he] at h; cases h
    | some e => rw [he] at h; cases h; exact z e he q
theorem ok_Shares_parts {dvs : List V} (R : RawM K a.c_Shares "parts" "Shares.parts" s_Shares_parts ["self", "name"] dvs) (T : Txt K mg a)
    (h_Shares_share : HasMe P w K mg base a.c_Shares 1 "share" ["self", "name"] (spSShare a) []) :
    HasMe P w K mg base a.c_Shares 2 "parts" ["self", "name"] (spSParts a) dvs := by
  refine R.ok sc_Shares_parts (fun vs H Q E h => ?_) (fun f cdv A outer s H vs Q E hr h => ?_)
  · obtain ⟨p, n, m, fp, rfl, _⟩ := h
    rfl
  obtain ⟨p, n, m, fp, rfl, S, k1, k2⟩ := h
  refine ⟨_, (@pss_one _ _ _ (@ps_ret _ _ _ _ (pe_callTy call_list_of (by rfl) T.b_list PyProof.Rows.Boot.«list» (@pa_cn _ _ _ _ _ (pe_fld (pe_me (pv 0) T.cl_Shares h_Shares_share (hr.mono (by decide)) pass_def (@pa_cn _ _ _ _ _ (pv 1) pa_nil rfl)) rfl) pa_nil rfl)))), ?_⟩
  have t1 := T.cl_Shares; have t3 := T.cl_Share; have t5 := T.n_Share_leaves
  obtain ⟨dx, d, kvs, ks, ent, S, hm⟩ := S
  have hp := S.ob
  have hmn := hm n
  walk_at "go"
  refine ⟨fun e he => ?_, fun z => k2 (by rw [hmn, z]; rfl)⟩
  have A := S.at' n e he
  have ho := A.ob
  have hl := A.hl
  walk_at "go"
  intro q hq
  exact k1 e.gs e.u (by rw [hmn, he]; rfl) q e.ys _ ⟨upd_same, A.len, fun i y g h1 h2 => (A.lf i y g h1 h2).same (same_upd hq)⟩ hq (same_upd hq)
end
structure SRows (H : Hp) (q : Addr) (ts : List Addr) (ns : List Str) (m : ShM) : Prop where
  hl : H q = some (.lst (ts.map V.ref))
  len : ts.length = ns.length
  at' : ∀ (i : Nat) t n, ts[i]? = some t → ns[i]? = some n → ∃ gs u, m n = some (gs, u) ∧ H t = some (.tup [.str n, .int (gs.length : Nat), .int u])
  srt : PyProof.Rows.sortedS ns = true
  nd : ns.Nodup
  mem : ∀ n, n ∈ ns ↔ ∃ v, m n = some v
theorem SRows.same {H H' : Hp} {q : Addr} {ts : List Addr} {ns : List Str} {m : ShM} (r : SRows H q ts ns m) (s : Same H H') : SRows H' q ts ns m :=
  ⟨s _ _ r.hl, r.len, fun i t n h1 h2 => let ⟨gs, u, e1, e2⟩ := r.at' i t n h1 h2; ⟨gs, u, e1, s _ _ e2⟩, r.srt, r.nd, r.mem⟩
def Few63 (m : ShM) : Prop := ∃ L : List Str, L.length < 64 ∧ ∀ n v, m n = some v → n ∈ L
def spSRows (a : Adr) : Sp := fun vs H Q _ => ∃ (p : Addr) (m : ShM) (fp : List Addr), vs = [.ref p] ∧ ShAt a H p m fp ∧ Few63 m ∧ ∀ q ts ns H', SRows H' q ts ns m → H q = none → Same H H' → Q (.ref q) H'
section
variable {P : Program} {w : World} {K : PySem.W.Frag} {mg : Str → Option Value} {base : Heap} {a : Adr}
theorem ok_Shares_rows {dvs : List V} (R : RawM K a.c_Shares "rows" "Shares.rows" s_Shares_rows ["self"] dvs) (T : Txt K mg a) :
    HasMe P w K mg base a.c_Shares 1 "rows" ["self"] (spSRows a) dvs := by
  refine R.ok sc_Shares_rows (fun vs H Q E h => ?_) (fun f cdv A outer s H vs Q E hr h => ?_)
  · obtain ⟨p, m, fp, rfl, _⟩ := h
    rfl
  obtain ⟨p, m, fp, rfl, S, few, k⟩ := h
  refine ⟨_, (pss_one (ps_ret (pe_comp (xs := ["name"]) (N' := ["self"]) rfl ⟨rfl, by decide +kernel, by decide +kernel, by dsimp only [cxOf, PyProof.Rows.envOfC]; decide +kernel, by decide +kernel, by dsimp only [cxOf]; decide +kernel, rfl⟩ (pi_list (pe_callB (call_sortedT hr.hd) (by rfl) T.b_sorted PyProof.Rows.Boot.«sorted» (pa_cn (pe_fld (pv 0) rfl) pa_nil rfl))) (fun _ _ _ _ _ => (pg_name (i := 0) (by dsimp only [cxComp]; decide +kernel) rfl (by first | exact Or.inl rfl | exact Or.inr rfl))) (fun _ _ _ _ _ => pts_nil) (fun _ _ _ _ _ => (pe_tup (pa_cn (pv 0) (pa_cn (pe_callB (call_lenK (K := K) rfl) (by rfl) (by exact T.b_len) PySem.boot_len (pa_cn (pe_fldK (K := K) rfl (pe_dget hr.u1 (pe_fldK (K := K) rfl (pv 1) rfl) (pv 0) (fun _ _ => rfl)) rfl) pa_nil rfl)) (pa_cn (pe_fldK (K := K) rfl (pe_dget hr.u1 (pe_fldK (K := K) rfl (pv 1) rfl) (pv 0) (fun _ _ => rfl)) rfl) pa_nil rfl) rfl) rfl)))))), ?_⟩
  have t1 := T.cl_Shares; have t2 := T.n_Shares_kept; have t3 := T.cl_Share; have t4 := T.n_Share_uses; have t5 := T.n_Share_leaves
  obtain ⟨dx, d, kvs, ks, ent, S, hm⟩ := S
  have hp := S.ob
  have hd := S.hd
  have tk : TKeys kvs ks := S.kk
  have k64 : ks.length < 64 := by
    obtain ⟨L, l1, l2⟩ := few
    refine Nat.lt_of_le_of_lt (nodup_len S.nd fun n hn => ?_) l1
    obtain ⟨e, he⟩ := (S.mem n).mp hn
    exact l2 n _ (by rw [hm n, he]; rfl)
  walk_at "go"
  intro sl ns hsl pm st
  generalize hh : upd _ sl _ = H1
  obtain ⟨s1, e1⟩ := newO hsl hh
  clear hh
  have nl : ns.length < 64 := by rw [pm.length_eq]; exact k64
  walk_at "go"
  intro q hq
  refine comp_listI (xs := ns.map V.str) (fun i zs H' => Bx (∃ ts : List Addr, zs = ts.map V.ref ∧ H' q = some (.lst (ts.map V.ref)) ∧ ts.length = i ∧ (∀ (j : Nat) t n, ts[j]? = some t → ns[j]? = some n → ∃ gs u, m n = some (gs, u) ∧ H' t = some (.tup [.str n, .int (gs.length : Nat), .int u])) ∧ ∀ b u, H1 b = some u → H' b = some u)) (by rw [List.length_map, sizeLine_eq]; omega) ⟨[], rfl, upd_same, rfl, fun j t n h => (nomatch h), same_upd hq⟩ ?_ ?_ ?_
  · rintro i zs H' ⟨ts, rfl, h1, h2, h3, h4⟩
    exact ⟨h1, SqL.of (h4 _ _ e1), by rw [List.length_map]; exact h2⟩
  · rintro i v zs H2 hi ⟨ts, rfl, h1, h2, h3, h4⟩ R r
    rw [List.getElem?_map] at hi
    obtain ⟨n, hn, rfl⟩ := Option.map_eq_some_iff.mp hi
    obtain ⟨e, he⟩ := (S.mem n).mp (pm.mem_iff.mp (List.mem_of_getElem? hn))
    have S2 := (S.same s1).same h4
    have hp2 := S2.ob
    have hd2 := S2.hd
    have A := S2.at' n e he
    have ho := A.ob
    have hl := A.hl
    have gg : DGet H2 d (.str n) (some (.ref e.x)) := by
      have := DGet.k (k := Sum.inr n) hd2
      rw [S2.val n, he] at this
      exact this
    have ll : (e.ys.map V.ref).length = e.gs.length := by rw [List.length_map]; exact A.len
    walk_at "go"
    rw [ll]
    intro t ht
    have tq : t ≠ q := fun z => by rw [z, h1] at ht; cases ht
    have up : ∀ b u, H2 b = some u → b ≠ q → upd (upd H2 t (.tup [.str n, .int (e.gs.length : Nat), .int e.u])) q (.lst ((ts ++ [t]).map V.ref)) b = some u := fun b u e1 n1 => by rw [upd_ne n1, upd_ne (ne_of_none e1 ht)]; exact e1
    have el : ts.map V.ref ++ [V.ref t] = (ts ++ [t]).map V.ref := by rw [List.map_append]; rfl
    refine r _ _ (by rw [upd_ne (ne_of_none h1 ht)]; exact h1) ?_
    rw [el]
    refine ⟨ts ++ [t], rfl, upd_same, by rw [List.length_append, h2]; rfl, fun j t' n' g1 g2 => ?_, fun b u e1 => up _ _ (h4 _ _ e1) (ne_of_none e1 hq)⟩
    by_cases c : j < ts.length
    · rw [List.getElem?_append_left c] at g1
      obtain ⟨gs, u, e2, e3⟩ := h3 j t' n' g1 g2
      exact ⟨gs, u, e2, up _ _ e3 fun z => by rw [z, h1] at e3; cases e3⟩
    · rw [List.getElem?_append_right (by omega)] at g1
      cases z : j - ts.length with
      | succ k => rw [z] at g1; cases g1
      | zero =>
        have : j = i := by omega
        rw [z] at g1; cases g1
        rw [this, hn] at g2; cases g2
        exact ⟨e.gs, e.u, by rw [hm n, he]; rfl, by rw [upd_ne tq, upd_same]⟩
  · rintro zs H2 ⟨ts, rfl, h1, h2, h3, h4⟩
    walk_at "go"
    refine k q ts ns H2 ⟨h1, by rw [h2, List.length_map], h3, st, pm.nodup_iff.mpr S.nd, fun n => ?_⟩ (by
      cases e : H q with
      | none => rfl
      | some u => rw [s1 _ _ e] at hq; cases hq) (s1.trans h4)
    rw [pm.mem_iff, S.mem n, hm n]
    exact ⟨fun ⟨e, he⟩ => ⟨_, by rw [he]; rfl⟩, fun ⟨v, hv⟩ => by
      cases he : ent n with
      | none => rw [he] at hv; cases hv
      | some e => exact ⟨e, rfl⟩⟩
end
end K31

set_option maxHeartbeats 4000000
namespace K31
open PySem L2
def spCell (K : PySem.W.Frag) : Sp := fun vs H Q _ => ∃ (p : Addr) (ns : List Int) (k : Int), vs = [.ref p, .int k] ∧ SqL K H p (ns.map V.int) ∧ 0 ≤ k ∧ Q (.int (ns.getD k.toNat 0)) H
def spWhole : Sp := fun vs H Q _ => ∃ i, vs = [.int i] ∧ Q (.bl true) H
section
variable {P : Program} {w : World} {K : PySem.W.Frag} {mg : Str → Option Value} {base : Heap} {a : Adr}
theorem ok__law_cell_at {dvs : List V} (R : RawF K mg "_law_cell_at" s__law_cell_at ["_law_script", "_law_k"] dvs) (T : Txt K mg a) :
    HasFn P w K mg base 1 "_law_cell_at" ["_law_script", "_law_k"] (spCell K) dvs := by
  refine R.ok sc__law_cell_at (fun vs H Q E h => ?_) (fun f cdv A outer s H vs Q E hr h => ?_)
  · obtain ⟨p, ns, k, rfl, _⟩ := h
    rfl
  obtain ⟨p, ns, k, rfl, S, h0, q⟩ := h
  refine ⟨_, (@pss_cons _ _ _ _ _ (ps_if (pt_cmpR op_lt (pv 1) (pe_callB call_len_seq (by rfl) T.b_len PySem.boot_len (@pa_cn _ _ _ _ _ (pv 0) pa_nil rfl)) (nomark _)) (@pss_one _ _ _ (@ps_ret _ _ _ _ (@pe_ix _ _ _ _ _ _ _ ix_list (pv 0) (pv 1) (fun _ _ => rfl)))) pss_nil)
      (@pss_one _ _ _ (@ps_ret _ _ _ _ pe_int))), ?_⟩
  refine ⟨_, rfl, _, rfl, p, _, rfl, .inl S, _, _, rfl, rfl, _, rfl, iteD (fun c => ?_) fun c => ?_⟩
  · rw [List.length_map] at c
    exact ⟨_, rfl, _, rfl, p, _, _, _, rfl, rfl, S, atI_getD h0 c, q⟩
  · rw [List.length_map] at c
    rw [getD_out (by omega)] at q
    exact q
theorem ok__law_whole {dvs : List V} (R : RawF K mg "_law_whole" s__law_whole ["_law_found"] dvs) (T : Txt K mg a) :
    HasFn P w K mg base 1 "_law_whole" ["_law_found"] (spWhole) dvs := by
  refine R.ok sc__law_whole (fun vs H Q E h => ?_) (fun f cdv A outer s H vs Q E hr h => ?_)
  · obtain ⟨i, rfl, _⟩ := h
    rfl
  obtain ⟨i, rfl, q⟩ := h
  refine ⟨_, (@pss_one _ _ _ (@ps_ret _ _ _ _ (pe_and (pe_callB call_isinst (by rfl) T.b_isinstance PyProof.Rows.Boot.«isinstance» (@pa_cn _ _ _ _ _ (pv 0) (@pa_cn _ _ _ _ _ (pe_bltn (v := .ty "int") (by rfl) T.b_int PyProof.Rows.Boot.«int» rfl) pa_nil rfl) rfl)) (pe_one (pe_not (pe_callB call_isinst (by rfl) T.b_isinstance PyProof.Rows.Boot.«isinstance» (@pa_cn _ _ _ _ _ (pv 0) (@pa_cn _ _ _ _ _ (pe_bltn (v := .ty "bool") (by rfl) T.b_bool PyProof.Rows.Boot.«bool» rfl) pa_nil rfl) rfl))))))), ?_⟩
  exact ⟨_, rfl, .int i, .ty "int", .type "int", true, rfl, rfl, .of (.int i), kit_self K _, true, rfl, iteT ⟨_, rfl, .int i, .ty "bool", .type "int", false, rfl, rfl, .of (.int i), kit_ib K, false, rfl, q⟩⟩
end
def drawn (c b p m : Int) : Int := (c % 1000000007 + 1) * b % p / 5 % m
theorem drawn_0 (c b p : Int) {m : Int} (h : 0 < m) : 0 ≤ drawn c b p m := Int.emod_nonneg _ (by omega)
theorem drawn_lt (c b p : Int) {m : Int} (h : 0 < m) : drawn c b p m < m := Int.emod_lt_of_pos _ h
def spDrawn : Sp := fun vs H Q _ => ∃ c b p m : Int, vs = [.int c, .int b, .int p, .int m] ∧ (-(2 ^ 64) < b ∧ b < 2 ^ 64) ∧ 0 < p ∧ 0 < m ∧ Q (.int (drawn c b p m)) H
section
variable {P : Program} {w : World} {K : PySem.W.Frag} {mg : Str → Option Value} {base : Heap} {a : Adr}
theorem ok__law_drawn {dvs : List V} (R : RawF K mg "_law_drawn" s__law_drawn ["_law_cell", "_law_by", "_law_prime", "_law_many"] dvs) (T : Txt K mg a) :
    HasFn P w K mg base 1 "_law_drawn" ["_law_cell", "_law_by", "_law_prime", "_law_many"] (spDrawn) dvs := by
  refine R.ok sc__law_drawn (fun vs H Q E h => ?_) (fun f cdv A outer s H vs Q E hr h => ?_)
  · obtain ⟨c, b, p, m, rfl, _⟩ := h
    rfl
  obtain ⟨c, b, p, m, rfl, hb, hp, hm, q⟩ := h
  refine ⟨_, (@pss_one _ _ _ (@ps_ret _ _ _ _ (pe_op op_mod (pe_op op_fdiv (pe_op op_mod (pe_op op_mul (pe_op op_add (pe_op op_mod (pv 0) pe_int) pe_int) (pv 1)) (pv 2)) pe_int) (pv 3)))), ?_⟩
  walk_at "go"
  exact q
end
theorem str_app (x y : Str) : (x ++ y).cps.toList = x.cps.toList ++ y.cps.toList := by
  show (x.cps ++ y.cps).toList = _
  simp
theorem str_len (x : Str) : x.length = x.cps.toList.length := by simp [Str.length]
theorem one_list (c : Nat) : (⟨#[c]⟩ : Str).cps.toList = [c] := rfl
theorem NameOk.of {x : Str} {L : List Nat} (e : x.cps.toList = L) (h1 : 1 ≤ L.length) (h8 : L.length ≤ 8) (h : ∀ c ∈ L, 97 ≤ c ∧ c ≤ 122) : NameOk x :=
  ⟨⟨by rw [str_len, e]; omega, by rw [str_len, e]; omega⟩, by rw [e]; exact h⟩
theorem NameOk.list {x : Str} (h : NameOk x) : 1 ≤ x.cps.toList.length ∧ x.cps.toList.length ≤ 8 ∧ ∀ c ∈ x.cps.toList, 97 ≤ c ∧ c ≤ 122 := by
  have := h.1
  rw [str_len] at this
  exact ⟨by omega, by omega, h.2⟩
theorem glued_list : ∀ (ps : List Str) (acc : Array Nat), (ps.foldl (fun acc p => acc ++ (Str.ofString "").cps ++ p.cps) acc).toList = acc.toList ++ (ps.map fun p => p.cps.toList).flatten
  | [], acc => by simp
  | p :: ps, acc => by
    have e : (Str.ofString "").cps = #[] := by decide +kernel
    rw [List.foldl_cons, glued_list ps, List.map_cons, List.flatten_cons, e]
    simp
theorem join_list (ys : List Str) : (Txt.join (Str.ofString "") ys).cps.toList = (ys.map fun p => p.cps.toList).flatten := by
  cases ys with
  | nil => rfl
  | cons y r =>
    show ((r.foldl (fun acc p => acc ++ (Str.ofString "").cps ++ p.cps) y.cps)).toList = _
    rw [glued_list, List.map_cons, List.flatten_cons]
theorem flat_ones (L : List Nat) : ((L.map fun c => (⟨#[c]⟩ : Str)).map fun p => p.cps.toList).flatten = L := by
  induction L with
  | nil => rfl
  | cons c r ih => rw [List.map_cons, List.map_cons, List.flatten_cons, ih]; rfl
theorem abc_at {i : Int} (h0 : 0 ≤ i) (h1 : i < 26) : atI (Str.ofString "abcdefghijklmnopqrstuvwxyz").cps.toList i = some (97 + i).toNat := by
  have all : ∀ j : Nat, j < 26 → (Str.ofString "abcdefghijklmnopqrstuvwxyz").cps.toList[j]? = some (97 + j) := by decide +kernel
  obtain ⟨j, rfl⟩ : ∃ j : Nat, i = (j : Int) := ⟨i.toNat, by omega⟩
  rw [show (97 + (j : Int)).toNat = 97 + j by omega]
  exact atI_nat (all j (by omega))
theorem abc_occ {c : Nat} (h : 97 ≤ c ∧ c ≤ 122) : Builtin.Str.occurrences (Str.ofString "abcdefghijklmnopqrstuvwxyz") ⟨#[c]⟩ 0 (Str.ofString "abcdefghijklmnopqrstuvwxyz").length 1 = (c - 97) :: [] := by
  have all : ∀ j : Nat, j < 26 → Builtin.Str.occurrences (Str.ofString "abcdefghijklmnopqrstuvwxyz") ⟨#[97 + j]⟩ 0 (Str.ofString "abcdefghijklmnopqrstuvwxyz").length 1 = j :: [] := by decide +kernel
  obtain ⟨j, rfl⟩ : ∃ j, c = 97 + j := ⟨c - 97, by omega⟩
  rw [all j (by omega)]
  congr 1; omega
def chL (c : Int) (i : Nat) : Nat := (97 + drawn (c / (0 + (i : Int) + 1) + (0 + (i : Int))) 69621 99989 26).toNat
def sgnS : Str := Str.ofString " !\"#$&'()*+,-./0123456789:;<=>?@ABCDEFGHIJKLMNOPQRSTUVWXYZ[\\]^_`{|}~"
theorem sgn_len : sgnS.length = 68 := by decide +kernel
theorem sgn_at {i : Int} (h0 : 0 ≤ i) (h1 : i < 68) : ∃ c, atI sgnS.cps.toList i = some c ∧ ¬ (97 ≤ c ∧ c ≤ 122) := by
  have all : ∀ j : Nat, j < 68 → ∃ c, sgnS.cps.toList[j]? = some c ∧ ¬ (97 ≤ c ∧ c ≤ 122) := by decide +kernel
  obtain ⟨j, rfl⟩ : ∃ j : Nat, i = (j : Int) := ⟨i.toNat, by omega⟩
  obtain ⟨c, e, r⟩ := all j (by omega)
  exact ⟨c, atI_nat e, r⟩
def spName31 : Sp := fun vs H Q _ => ∃ c : Int, vs = [.int c] ∧ ∀ (x : Str) (H' : Hp), NameOk x → Same H H' → Q (.str x) H'
def spBeside31 : Sp := fun vs H Q _ => ∃ (x : Str) (c : Int), vs = [.str x, .int c] ∧ NameOk x ∧ ∀ y : Str, NameOk y → y ≠ x → Q (.str y) H
def spNoName31 : Sp := fun vs H Q _ => ∃ (x : Str) (c : Int), vs = [.str x, .int c] ∧ NameOk x ∧ ∀ (y : Str) (H' : Hp), ¬ NameOk y → y.length ≤ 100 → Same H H' → Q (.str y) H'
section
variable {P : Program} {w : World} {K : PySem.W.Frag} {mg : Str → Option Value} {base : Heap} {a : Adr}
theorem ok__law_name {dvs : List V} (R : RawF K mg "_law_name" s__law_name ["_law_cell"] dvs) (T : Txt K mg a)
    (h__law_drawn : HasFn P w K mg base 1 "_law_drawn" ["_law_cell", "_law_by", "_law_prime", "_law_many"] (spDrawn) []) :
    HasFn P w K mg base 2 "_law_name" ["_law_cell"] (spName31) dvs := by
  refine R.ok sc__law_name (fun vs H Q E h => ?_) (fun f cdv A outer s H vs Q E hr h => ?_)
  · obtain ⟨c, rfl, _⟩ := h
    rfl
  obtain ⟨c, rfl, k⟩ := h
  refine ⟨_, (pss_cons (ps_set (i := 1) sc__law_name.nd rfl (by first | exact Or.inl rfl | exact Or.inr rfl) pe_str)
      (pss_cons (ps_set (i := 2) sc__law_name.nd rfl (by first | exact Or.inl rfl | exact Or.inr rfl) (pe_op op_add pe_int (pe_fn h__law_drawn (hr.mono (by decide)) (by rfl) pass_def (pa_cn (pv 0) (pa_cn pe_int (pa_cn pe_int (pa_cn pe_int pa_nil rfl) rfl) rfl) rfl))))
      (pss_one (ps_ret (pe_bm PySem.F.plainAttrs_str PySem.F.slot_str_join PySem.F.type_str_join mt_join pe_str (pa_cn (pe_comp (xs := ["_law_k"]) (N' := ["_law_cell", "_law_letters", "_law_size"]) rfl ⟨rfl, by decide +kernel, by decide +kernel, by dsimp only [cxOf, PyProof.Rows.envOfC]; decide +kernel, by decide +kernel, by dsimp only [cxOf]; decide +kernel, rfl⟩ (pi_range1 (by rfl) T.b_range (pa_cn (pv 2) pa_nil rfl)) (fun _ _ _ _ _ => (pg_name (i := 0) (by dsimp only [cxComp]; decide +kernel) rfl (by first | exact Or.inl rfl | exact Or.inr rfl))) (fun _ _ _ _ _ => pts_nil) (fun _ _ _ _ _ => (pe_ix ix_str (pv 2) (pe_fn h__law_drawn (hr.mono (by decide)) (by rfl) pass_none (pa_cn (pe_op op_add (pe_op op_fdiv (pv 1) (pe_op op_add (pv 0) pe_int)) (pv 0)) (pa_cn pe_int (pa_cn pe_int (pa_cn pe_int pa_nil rfl) rfl) rfl) rfl)) (fun _ _ => rfl)))) pa_nil rfl)))))), ?_⟩
  have d0 := drawn_0 c 48271 99991 (m := 8) (by decide)
  have d1 := drawn_lt c 48271 99991 (m := 8) (by decide)
  have al : (Str.ofString "abcdefghijklmnopqrstuvwxyz").length ≤ sizeLine := by rw [sizeLine_eq]; decide +kernel
  walk_at "go"
  intro u hu
  refine comp_range hu (fun i => .str ⟨#[chL c i]⟩) (fun _ => true) (by rw [sizeLine_eq]; omega) (fun i ys hi R r => r) (fun i ys hi _ R r => ?_) ?_
  · have cd : CDiv c (0 + (i : Int) + 1) := ⟨by omega, by omega⟩
    have ac : atI (Str.ofString "abcdefghijklmnopqrstuvwxyz").cps.toList (drawn (c / (0 + (i : Int) + 1) + (0 + (i : Int))) 69621 99989 26) = some (chL c i) := abc_at (drawn_0 _ _ _ (by decide)) (drawn_lt _ _ _ (by decide))
    walk_at "go"
    exact r
  · have e : ((List.range (1 + drawn c 48271 99991 8).toNat).filter fun _ => true).map (fun i : Nat => V.str ⟨#[chL c i]⟩) = (((List.range (1 + drawn c 48271 99991 8).toNat).map (chL c)).map fun c => (⟨#[c]⟩ : Str)).map V.str := by
      rw [List.filter_eq_self.mpr (fun _ _ => rfl), List.map_map, List.map_map]; rfl
    rw [e]
    have ll : ((List.range (1 + drawn c 48271 99991 8).toNat).map (chL c)).length = (1 + drawn c 48271 99991 8).toNat := by rw [List.length_map, List.length_range]
    have lc : ∀ z ∈ (List.range (1 + drawn c 48271 99991 8).toNat).map (chL c), 97 ≤ z ∧ z ≤ 122 := fun z hz => by
      obtain ⟨i, _, rfl⟩ := List.mem_map.mp hz
      have h0 := drawn_0 (c / (0 + (i : Int) + 1) + (0 + (i : Int))) 69621 99989 (m := 26) (by decide)
      have h1 := drawn_lt (c / (0 + (i : Int) + 1) + (0 + (i : Int))) 69621 99989 (m := 26) (by decide)
      unfold chL
      omega
    generalize (List.range (1 + drawn c 48271 99991 8).toNat).map (chL c) = L at ll lc
    generalize hh : upd _ u _ = H1
    obtain ⟨s1, e1⟩ := newO hu hh
    clear hh
    have z0 : (Str.ofString "").length ≤ 16 := by decide +kernel
    have zs : ((L.map fun c => (⟨#[c]⟩ : Str)).map fun x => x.length).sum + (L.map fun c => (⟨#[c]⟩ : Str)).length ≤ 1048576 := by
      have : ((L.map fun c => (⟨#[c]⟩ : Str)).map fun x => x.length).sum = L.length := by
        rw [List.map_map]
        clear ll lc e1
        induction L with
        | nil => rfl
        | cons a r ih => rw [List.map_cons, List.sum_cons, ih, List.length_cons]; show 1 + _ = _; omega
      rw [this, List.length_map]; omega
    walk_at "go"
    exact k _ H1 (NameOk.of (by rw [join_list, flat_ones]) (by omega) (by omega) lc) s1
theorem ok__law_beside {dvs : List V} (R : RawF K mg "_law_beside" s__law_beside ["_law_name_here", "_law_cell"] dvs) (T : Txt K mg a) :
    HasFn P w K mg base 1 "_law_beside" ["_law_name_here", "_law_cell"] (spBeside31) dvs := by
  refine R.ok sc__law_beside (fun vs H Q E h => ?_) (fun f cdv A outer s H vs Q E hr h => ?_)
  · obtain ⟨x, c, rfl, _⟩ := h
    rfl
  obtain ⟨x, c, rfl, ok, k⟩ := h
  let R4 : {t : TS // PSs (cxOf (CXE P w) P w K mg base n__law_beside "_law_beside" (defScope s__law_beside) f cdv A outer s H E) ((defBody s__law_beside).drop 4) t} := ⟨_, (@pss_cons _ _ _ _ _ (@ps_set _ _ 4 _ _ _ _ sc__law_beside.nd rfl (by first | exact Or.inl rfl | exact Or.inr rfl) (@pe_ix _ _ _ _ _ _ _ ix_str (pv 2) (pe_op op_mod (pe_op op_add (pe_op op_add (pe_bm PySem.F.plainAttrs_str PySem.F.slot_str_index PySem.F.type_str_index mt_indexS (pv 2) (@pa_cn _ _ _ _ _ (@pe_ix _ _ _ _ _ _ _ ix_str (pv 0) (pv 3) (fun _ _ => rfl)) pa_nil rfl)) pe_int) (pe_op op_mod (pe_op op_fdiv (pv 1) pe_int) pe_int)) pe_int) (fun _ _ => rfl)) (by rfl) (by first | exact Or.inl rfl | exact Or.inr rfl))
      (@pss_one _ _ _ (@ps_ret _ _ _ _ (pe_op op_add_str (pe_op op_add_str (pe_slice sl_str (pv 0) po_none (po_some (pv 3))) (pv 4)) (pe_slice sl_str (pv 0) (po_some (pe_op op_add (pv 3) pe_int)) po_none)))))⟩
  let R3 : {t : TS // PSs (cxOf (CXE P w) P w K mg base n__law_beside "_law_beside" (defScope s__law_beside) f cdv A outer s H E) ((defBody s__law_beside).drop 3) t} := ⟨_, (@pss_cons _ _ _ _ _ (ps_if (PW.pt (pw_and (pt_cmpR op_eq (pe_op op_mod (pe_op op_fdiv (pv 1) pe_int) pe_int) pe_int (nomark _)) (pw_and1 (pt_cmpR op_lt (pe_callB call_len_str (by rfl) T.b_len PySem.boot_len (@pa_cn _ _ _ _ _ (pv 0) pa_nil rfl)) pe_int (nomark _))))) (@pss_one _ _ _ (@ps_ret _ _ _ _ (pe_op op_add_str (pv 0) (@pe_ix _ _ _ _ _ _ _ ix_str (pv 2) (pe_op op_mod (pe_op op_fdiv (pv 1) pe_int) pe_int) (fun _ _ => rfl))))) pss_nil)
      R4.2)⟩
  refine ⟨_, (@pss_cons _ _ _ _ _ (@ps_set _ _ 2 _ _ _ _ sc__law_beside.nd rfl (by first | exact Or.inl rfl | exact Or.inr rfl) pe_str (by rfl) (by first | exact Or.inl rfl | exact Or.inr rfl))
      (@pss_cons _ _ _ _ _ (@ps_set _ _ 3 _ _ _ _ sc__law_beside.nd rfl (by first | exact Or.inl rfl | exact Or.inr rfl) (pe_op op_mod (pv 1) (pe_callB call_len_str (by rfl) T.b_len PySem.boot_len (@pa_cn _ _ _ _ _ (pv 0) pa_nil rfl))) (by rfl) (by first | exact Or.inl rfl | exact Or.inr rfl))
      (@pss_cons _ _ _ _ _ (ps_if (PW.pt (pw_and (pt_cmpR op_eq (pe_op op_mod (pe_op op_fdiv (pv 1) pe_int) pe_int) pe_int (nomark _)) (pw_and1 (pt_cmpR op_gt (pe_callB call_len_str (by rfl) T.b_len PySem.boot_len (@pa_cn _ _ _ _ _ (pv 0) pa_nil rfl)) pe_int (nomark _))))) (@pss_one _ _ _ (@ps_ret _ _ _ _ (pe_slice sl_str (pv 0) po_none (po_some (pe_un un_neg pe_int))))) pss_nil)
      R3.2))), ?_⟩
  obtain ⟨l1, l8, lc⟩ := ok.list
  have xl := str_len x
  have lp : (0 : Int) < (x.length : Int) := by omega
  have xz : x.length ≤ sizeLine := by rw [sizeLine_eq]; omega
  have al : (Str.ofString "abcdefghijklmnopqrstuvwxyz").length ≤ sizeLine := by rw [sizeLine_eq]; decide +kernel
  have a0 := Int.emod_nonneg c (show (x.length : Int) ≠ 0 by omega)
  have a1 := Int.emod_lt_of_pos c lp
  obtain ⟨j, ej⟩ : ∃ j : Nat, c % (x.length : Int) = (j : Int) := ⟨(c % (x.length : Int)).toNat, by omega⟩
  obtain ⟨ch, hch⟩ : ∃ ch, x.cps.toList[j]? = some ch := ⟨_, List.getElem?_eq_getElem (by omega)⟩
  have cc := lc ch (List.mem_of_getElem? hch)
  have ach : atI x.cps.toList (c % (x.length : Int)) = some ch := by rw [ej]; exact atI_nat hch
  have occ := abc_occ cc
  have tail : ∀ D : Ends, (∀ y : Str, NameOk y → y ≠ x → D.rt (.str y) H) → R4.1 D [some (.str x), some (.int c), some (.str (Str.ofString "abcdefghijklmnopqrstuvwxyz")), some (.int (c % (x.length : Int))), none] H := by
    intro D kk
    have b0 := Int.emod_nonneg (((ch - 97 : Nat) : Int) + 1 + c / 32 % 25) (show (26 : Int) ≠ 0 by decide)
    have b1 := Int.emod_lt_of_pos (((ch - 97 : Nat) : Int) + 1 + c / 32 % 25) (show (0 : Int) < 26 by decide)
    have ac := abc_at b0 b1
    have on : (97 + (((ch - 97 : Nat) : Int) + 1 + c / 32 % 25) % 26).toNat ≠ ch := by omega
    have oc : 97 ≤ (97 + (((ch - 97 : Nat) : Int) + 1 + c / 32 % 25) % 26).toNat ∧ (97 + (((ch - 97 : Nat) : Int) + 1 + c / 32 % 25) % 26).toNat ≤ 122 := by omega
    generalize (97 + (((ch - 97 : Nat) : Int) + 1 + c / 32 % 25) % 26).toNat = o at ac on oc
    have s1 : (Txt.slice x none (some (c % (x.length : Int)))).cps.toList = x.cps.toList.take j := by rw [slice_to a0 (by omega), ej, Int.toNat_natCast]
    have s2 : (Txt.slice x (some (c % (x.length : Int) + 1)) none).cps.toList = x.cps.toList.drop (j + 1) := by rw [slice_from (by omega) (by omega), ej, show ((j : Int) + 1).toNat = j + 1 by omega]
    have y1 : (Txt.slice x none (some (c % (x.length : Int)))).length + (⟨#[o]⟩ : Str).length ≤ sizeLine := by rw [str_len, s1, List.length_take, sizeLine_eq]; show _ + 1 ≤ _; omega
    have y2 : (Txt.slice x none (some (c % (x.length : Int))) ++ ⟨#[o]⟩ : Str).length + (Txt.slice x (some (c % (x.length : Int) + 1)) none).length ≤ sizeLine := by rw [str_len, str_app, s1, str_len, s2, List.length_append, List.length_take, List.length_drop, sizeLine_eq]; show _ + 1 + _ ≤ _; omega
    have el : (Txt.slice x none (some (c % (x.length : Int))) ++ ⟨#[o]⟩ ++ Txt.slice x (some (c % (x.length : Int) + 1)) none : Str).cps.toList = x.cps.toList.set j o := by
      rw [str_app, str_app, s1, s2, one_list, List.set_eq_take_append_cons_drop, if_pos (by omega), List.append_assoc]; rfl
    walk_at "go"
    refine kk _ (NameOk.of el (by rw [List.length_set]; exact l1) (by rw [List.length_set]; exact l8) fun z hz => ?_) fun e => ?_
    · rcases List.mem_or_eq_of_mem_set hz with q | q
      · exact lc z q
      · rw [q]; exact oc
    · have e2 := congrArg (fun y : Str => y.cps.toList) e
      have e2 : (Txt.slice x none (some (c % (x.length : Int))) ++ ⟨#[o]⟩ ++ Txt.slice x (some (c % (x.length : Int) + 1)) none : Str).cps.toList = x.cps.toList := e2
      rw [el] at e2
      have e3 := congrArg (fun l : List Nat => l[j]?) e2
      simp only [List.getElem?_set_self (show j < x.cps.toList.length by omega)] at e3
      rw [hch] at e3
      exact on (Option.some.inj e3)
  have t3 : ∀ D : Ends, (∀ y : Str, NameOk y → y ≠ x → D.rt (.str y) H) → R3.1 D [some (.str x), some (.int c), some (.str (Str.ofString "abcdefghijklmnopqrstuvwxyz")), some (.int (c % (x.length : Int))), none] H := by
    intro D kk
    have fin := tail D kk
    walk_at "go"
    refine iteI (fun z => ?_) (fun z => ?_)
    · walk_at "go"
      refine iteD (fun z2 => ?_) (fun z2 => ?_)
      · have b0 := Int.emod_nonneg (c / 32) (show (26 : Int) ≠ 0 by decide)
        have b1 := Int.emod_lt_of_pos (c / 32) (show (0 : Int) < 26 by decide)
        have ac := abc_at b0 b1
        have oc : 97 ≤ (97 + c / 32 % 26).toNat ∧ (97 + c / 32 % 26).toNat ≤ 122 := by omega
        generalize (97 + c / 32 % 26).toNat = o at ac oc
        have y1 : x.length + (⟨#[o]⟩ : Str).length ≤ sizeLine := by rw [sizeLine_eq]; show _ + 1 ≤ _; omega
        have el : (x ++ ⟨#[o]⟩ : Str).cps.toList = x.cps.toList ++ [o] := by rw [str_app, one_list]
        walk_at "go"
        refine kk _ (NameOk.of el (by rw [List.length_append]; omega) (by rw [List.length_append]; show _ + 1 ≤ _; omega) fun z hz => ?_) fun e => ?_
        · rcases List.mem_append.mp hz with q | q
          · exact lc z q
          · rw [List.mem_singleton.mp q]; exact oc
        · have e2 := congrArg (fun y : Str => y.cps.toList.length) e
          have e2 : (x ++ ⟨#[o]⟩ : Str).cps.toList.length = x.cps.toList.length := e2
          rw [el, List.length_append] at e2
          simp at e2
      · exact fin
    · exact fin
  have fin := t3 { nx := fun _ H' => Q .non H', rt := Q } k
  walk_at "go"
  refine iteI (fun z => ?_) (fun z => ?_)
  · walk_at "go"
    refine iteD (fun z2 => ?_) (fun z2 => ?_)
    · have s1 := slice_to1 (x := x) (by omega)
      walk_at "go"
      refine k _ (NameOk.of s1 (by rw [List.length_take]; omega) (by rw [List.length_take]; omega) fun z hz => lc z (List.mem_of_mem_take hz)) fun e => ?_
      have e2 := congrArg (fun y : Str => y.cps.toList.length) e
      have e2 : (Txt.slice x none (some (-1))).cps.toList.length = x.cps.toList.length := e2
      rw [s1, List.length_take] at e2
      omega
    · exact fin
  · exact fin
theorem ok__law_no_name {dvs : List V} (R : RawF K mg "_law_no_name" s__law_no_name ["_law_name_here", "_law_cell"] dvs) (T : Txt K mg a)
    (h__law_drawn : HasFn P w K mg base 1 "_law_drawn" ["_law_cell", "_law_by", "_law_prime", "_law_many"] (spDrawn) []) :
    HasFn P w K mg base 2 "_law_no_name" ["_law_name_here", "_law_cell"] (spNoName31) dvs := by
  refine R.ok sc__law_no_name (fun vs H Q E h => ?_) (fun f cdv A outer s H vs Q E hr h => ?_)
  · obtain ⟨x, c, rfl, _⟩ := h
    rfl
  obtain ⟨x, c, rfl, ok, k⟩ := h
  refine ⟨_, (@pss_cons _ _ _ _ _ (@ps_set _ _ 2 _ _ _ _ sc__law_no_name.nd rfl (by first | exact Or.inl rfl | exact Or.inr rfl) pe_str (by rfl) (by first | exact Or.inl rfl | exact Or.inr rfl))
      (@pss_cons _ _ _ _ _ (@ps_set _ _ 3 _ _ _ _ sc__law_no_name.nd rfl (by first | exact Or.inl rfl | exact Or.inr rfl) (pe_fn h__law_drawn (hr.mono (by decide)) (by rfl) pass_def (@pa_cn _ _ _ _ _ (pv 1) (@pa_cn _ _ _ _ _ pe_int (@pa_cn _ _ _ _ _ pe_int (@pa_cn _ _ _ _ _ pe_int pa_nil rfl) rfl) rfl) rfl)) (by rfl) (by first | exact Or.inl rfl | exact Or.inr rfl))
      (@pss_cons _ _ _ _ _ (ps_if (pt_cmpR op_eq (pv 3) pe_int (nomark _)) (@pss_one _ _ _ (@ps_ret _ _ _ _ (@pe_ix _ _ _ _ _ _ _ ix_list (@pe_lst _ _ _ _ (@pa_cn _ _ _ _ _ pe_str (@pa_cn _ _ _ _ _ (pe_slice sl_str (pe_op op_add_str (pv 0) pe_str) po_none (po_some pe_int)) (@pa_cn _ _ _ _ _ (pe_op op_mulS (pv 0) pe_int) (@pa_cn _ _ _ _ _ (pe_op op_add_str pe_str (pe_slice sl_str (pv 0) (po_some pe_int) po_none)) pa_nil rfl) rfl) rfl) rfl)) (pe_op op_mod (pv 1) pe_int) (fun _ _ => rfl)))) pss_nil)
      (@pss_cons _ _ _ _ _ (@ps_set _ _ 4 _ _ _ _ sc__law_no_name.nd rfl (by first | exact Or.inl rfl | exact Or.inr rfl) (pe_op op_mod (pe_op op_fdiv (pv 1) pe_int) (pe_callB call_len_str (by rfl) T.b_len PySem.boot_len (@pa_cn _ _ _ _ _ (pv 0) pa_nil rfl))) (by rfl) (by first | exact Or.inl rfl | exact Or.inr rfl))
      (@pss_one _ _ _ (@ps_ret _ _ _ _ (pe_op op_add_str (pe_op op_add_str (pe_slice sl_str (pv 0) po_none (po_some (pv 4))) (@pe_ix _ _ _ _ _ _ _ ix_str (pv 2) (pe_fn h__law_drawn (hr.mono (by decide)) (by rfl) pass_def (@pa_cn _ _ _ _ _ (pv 1) (@pa_cn _ _ _ _ _ pe_int (@pa_cn _ _ _ _ _ pe_int (@pa_cn _ _ _ _ _ (pe_callB call_len_str (by rfl) T.b_len PySem.boot_len (@pa_cn _ _ _ _ _ (pv 2) pa_nil rfl)) pa_nil rfl) rfl) rfl) rfl)) (fun _ _ => rfl))) (pe_slice sl_str (pv 0) (po_some (pe_op op_add (pv 4) pe_int)) po_none)))))))), ?_⟩
  obtain ⟨l1, l8, lc⟩ := ok.list
  have xl := str_len x
  have lp : (0 : Int) < (x.length : Int) := by omega
  have xz : x.length ≤ sizeLine := by rw [sizeLine_eq]; omega
  have d0 := drawn_0 c 16807 99971 (m := 6) (by decide)
  have d1 := drawn_lt c 16807 99971 (m := 6) (by decide)
  have eS : Str.ofString " !\"#$&'()*+,-./0123456789:;<=>?@ABCDEFGHIJKLMNOPQRSTUVWXYZ[\\]^_`{|}~" = sgnS := rfl
  have sl := sgn_len
  have sz : sgnS.length ≤ sizeLine := by rw [sizeLine_eq, sl]; decide
  have sp : (0 : Int) < (sgnS.length : Int) := by omega
  have long : ∀ y : Str, 9 ≤ y.cps.toList.length → ¬ NameOk y := fun y h w => by have := w.list.2.1; omega
  have bad : ∀ (y : Str) (z : Nat), z ∈ y.cps.toList → ¬ (97 ≤ z ∧ z ≤ 122) → ¬ NameOk y := fun y z hz hn w => hn (w.2 z hz)
  walk_at "go"
  rw [eS]
  refine iteI (fun z => ?_) (fun z => ?_)
  · have e8 : (Str.ofString "abcdefgh").cps.toList.length = 8 := by decide +kernel
    have l8' : (Str.ofString "abcdefgh").length = 8 := by decide +kernel
    have y1 : x.length + (Str.ofString "abcdefgh").length ≤ sizeLine := by rw [sizeLine_eq, l8']; omega
    have y2 : (x ++ Str.ofString "abcdefgh" : Str).length = x.length + 8 := by rw [str_len, str_app, List.length_append, e8, ← xl]
    have y3 : (x ++ Str.ofString "abcdefgh" : Str).length ≤ sizeLine := by rw [sizeLine_eq, y2]; omega
    have y4 : x.length ≤ 1000 := by omega
    have y5 : (Str.ofString " ").length = 1 := by decide +kernel
    have s1 : (Txt.slice (x ++ Str.ofString "abcdefgh") none (some 9)).cps.toList.length = 9 := by rw [slice_to (by decide) (by rw [y2]; omega), List.length_take, ← str_len, y2]; show min 9 _ = 9; omega
    have s2 : (Txt.slice x (some 1) none).cps.toList = x.cps.toList.drop 1 := by rw [slice_from (by decide) (by omega)]; rfl
    have y6 : (Str.ofString " ").length + (Txt.slice x (some 1) none).length ≤ sizeLine := by rw [y5, str_len, s2, List.length_drop, sizeLine_eq]; omega
    have m9 : (Txt.mul x 9).length = 9 * x.length := by
      unfold Txt.mul
      rw [if_neg (by decide), if_neg (by simp; omega)]
      show ((List.replicate 9 x.cps).foldl (· ++ ·) #[]).size = 9 * x.cps.size
      simp only [List.replicate, List.foldl_cons, List.foldl_nil, Array.size_append]
      show 0 + _ + _ + _ + _ + _ + _ + _ + _ + _ = _
      omega
    walk_at "go"
    intro lq hlq
    generalize hh : upd _ lq _ = H1
    obtain ⟨s1_, e1⟩ := newO hlq hh
    clear hh
    obtain ⟨y, ey, yb, yl⟩ : ∃ y : Str, atI [V.str (Str.ofString ""), V.str (Txt.slice (x ++ Str.ofString "abcdefgh") none (some 9)), V.str (Txt.mul x 9), V.str (Str.ofString " " ++ Txt.slice x (some 1) none)] (c % 4) = some (.str y) ∧ ¬ NameOk y ∧ y.length ≤ 100 := by
      have : c % 4 = 0 ∨ c % 4 = 1 ∨ c % 4 = 2 ∨ c % 4 = 3 := by omega
      rcases this with e | e | e | e
      · exact ⟨_, by rw [e]; rfl, fun w => absurd w.1.1 (by decide +kernel), by decide +kernel⟩
      · exact ⟨_, by rw [e]; rfl, long _ (by rw [s1]; exact Nat.le_refl _), by rw [str_len, s1]; decide⟩
      · exact ⟨_, by rw [e]; rfl, long _ (by rw [← str_len, m9]; omega), by rw [m9]; omega⟩
      · exact ⟨_, by rw [e]; rfl, bad _ 32 (by rw [str_app]; exact List.mem_append_left _ (by decide +kernel)) (by decide), by rw [str_len, str_app, List.length_append, s2, List.length_drop, ← str_len, y5]; omega⟩
    walk_at "go"
    exact k y H1 yb yl s1_
  · have a0 := Int.emod_nonneg (c / 4) (show (x.length : Int) ≠ 0 by omega)
    have a1 := Int.emod_lt_of_pos (c / 4) lp
    obtain ⟨j, ej⟩ : ∃ j : Nat, c / 4 % (x.length : Int) = (j : Int) := ⟨(c / 4 % (x.length : Int)).toNat, by omega⟩
    have b0 := drawn_0 c 39373 99961 sp
    have b1 := drawn_lt c 39373 99961 sp
    obtain ⟨o, ac, on⟩ := sgn_at b0 (by omega)
    have s1 : (Txt.slice x none (some (c / 4 % (x.length : Int)))).cps.toList = x.cps.toList.take j := by rw [slice_to a0 (by omega), ej, Int.toNat_natCast]
    have s2 : (Txt.slice x (some (c / 4 % (x.length : Int) + 1)) none).cps.toList = x.cps.toList.drop (j + 1) := by rw [slice_from (by omega) (by omega), ej, show ((j : Int) + 1).toNat = j + 1 by omega]
    have y1 : (Txt.slice x none (some (c / 4 % (x.length : Int)))).length + (⟨#[o]⟩ : Str).length ≤ sizeLine := by rw [str_len, s1, List.length_take, sizeLine_eq]; show _ + 1 ≤ _; omega
    have y2 : (Txt.slice x none (some (c / 4 % (x.length : Int))) ++ ⟨#[o]⟩ : Str).length + (Txt.slice x (some (c / 4 % (x.length : Int) + 1)) none).length ≤ sizeLine := by rw [str_len, str_app, s1, str_len, s2, List.length_append, List.length_take, List.length_drop, sizeLine_eq]; show _ + 1 + _ ≤ _; omega
    walk_at "go"
    refine k _ H (bad _ o ?_ on) ?_ (.refl _)
    · rw [str_app, str_app, one_list]
      exact List.mem_append_left _ (List.mem_append_right _ (.head _))
    · rw [str_len, str_app, str_app, s1, s2, one_list, List.length_append, List.length_append, List.length_take, List.length_drop]
      show _ + 1 + _ ≤ 100
      omega
end
end K31

set_option maxHeartbeats 4000000
namespace K31
open PySem L2
def clsS (a : Adr) (i : Nat) : Addr := if i = 0 then a.c_NoName else if i = 1 then a.c_Unlike else a.c_NoShare
def Ref31 (m : ShM) (way : Int) (n : Str) (k : Int) (i : Nat) : Prop :=
  (i = 2 ∧ (way = 2 ∨ way = 3 ∨ way = 4 ∨ way = 5 ∨ way = 6) ∧ m n = none) ∨ (i = 0 ∧ (way = 0 ∨ way = 1) ∧ ¬ NameOk n) ∨ (i = 1 ∧ (way = 0 ∨ way = 1) ∧ NameOk n ∧ ∃ gs u, m n = some (gs, u) ∧ (gs.length : Int) ≠ k) ∨ (i = 3 ∧ way = 1 ∧ NameOk n ∧ ∀ gs u, m n = some (gs, u) → (gs.length : Int) = k)
def spRef31 (a : Adr) : Sp := fun vs H Q _ => ∃ (p : Addr) (way : Int) (n : Str) (k : Int) (m : ShM) (fp : List Addr) (i : Nat), vs = [.ref p, .int way, .str n, .int k] ∧ ShAt a H p m fp ∧ n.length ≤ sizeLine ∧ 0 ≤ k ∧ k ≤ 64 ∧ FewM m ∧ Ref31 m way n k i ∧
  ∀ v H', (i = 3 → v = .non) → (i ≠ 3 → ∃ e, v = .ref e ∧ H' e = some (exO e (.ref (clsS a i)) none)) → Same H H' → Q v H'
def spCode31 (a : Adr) : Sp := fun vs H Q _ => ∃ (v : V) (i : Nat), vs = [v] ∧ (i = 3 → v = .non) ∧ (i ≠ 3 → ∃ e, v = .ref e ∧ H e = some (exO e (.ref (clsS a i)) none)) ∧ i ≤ 3 ∧ ∀ H', Same H H' → Q (.int (if i = 3 then 0 else 1 + (i : Int))) H'
section
variable {P : Program} {w : World} {K : PySem.W.Frag} {mg : Str → Option Value} {base : Heap} {a : Adr}
theorem ok__law_refusal {dvs : List V} (R : RawF K mg "_law_refusal" s__law_refusal ["_law_shares", "_law_way", "_law_name_here", "_law_many"] dvs) (T : Txt K mg a)
    (h_Shares_use : HasMe P w K mg base a.c_Shares 6 "use" ["self", "name", "many"] (spSUse a) [])
    (h_Shares_fits : HasMe P w K mg base a.c_Shares 2 "fits" ["self", "name", "many"] (spSFits a) [])
    (h_Shares_more : HasMe P w K mg base a.c_Shares 2 "more" ["self", "name"] (spSMore a) [])
    (h_Shares_less : HasMe P w K mg base a.c_Shares 2 "less" ["self", "name"] (spSLess a) [])
    (h_Shares_leaf : HasMe P w K mg base a.c_Shares 3 "leaf" ["self", "name", "part"] (spSLeaf a) [])
    (h_Shares_put : HasMe P w K mg base a.c_Shares 3 "put" ["self", "name", "part", "leaf"] (spSPut a) [])
    (h_Fresh___init__ : HasMk P w K mg base a.c_Fresh 2 ["self", "rights"] (spLeafInit a K) [])
    (h_Shares_parts : HasMe P w K mg base a.c_Shares 2 "parts" ["self", "name"] (spSParts a) []) :
    HasFn P w K mg base 7 "_law_refusal" ["_law_shares", "_law_way", "_law_name_here", "_law_many"] (spRef31 a) dvs := by
  refine R.ok sc__law_refusal (fun vs H Q E h => ?_) (fun f cdv A outer s H vs Q E hr h => ?_)
  · obtain ⟨p, way, n, k, m, fp, i, rfl, _⟩ := h
    rfl
  obtain ⟨p, way, n, k, m, fp, i, rfl, S, nl, k0, k64, few, rf, kk⟩ := h
  refine ⟨_, (@pss_cons _ _ _ _ _ (@ps_set _ _ 4 _ _ _ _ sc__law_refusal.nd rfl (by first | exact Or.inl rfl | exact Or.inr rfl) pe_non (by rfl) (by first | exact Or.inl rfl | exact Or.inr rfl))
      (@pss_cons _ _ _ _ _ (ps_try_as (i := 5) rfl rfl rfl rfl T.x_LeafError (by rfl) T.m_LeafError sc__law_refusal.nd rfl rfl
      (fun pn xe EX hx => (@pss_one _ _ _ (ps_if (pt_cmpR op_eq (pv 1) pe_int (nomark _)) (@pss_one _ _ _ (ps_expr (pe_me (pv 0) T.cl_Shares h_Shares_use (hr.mono (by decide)) hx (@pa_cn _ _ _ _ _ (pv 2) (@pa_cn _ _ _ _ _ (pv 3) pa_nil rfl) rfl)))) (@pss_one _ _ _ (ps_if (pt_cmpR op_eq (pv 1) pe_int (nomark _)) (@pss_one _ _ _ (ps_expr (pe_me (pv 0) T.cl_Shares h_Shares_fits (hr.mono (by decide)) hx (@pa_cn _ _ _ _ _ (pv 2) (@pa_cn _ _ _ _ _ (pv 3) pa_nil rfl) rfl)))) (@pss_one _ _ _ (ps_if (pt_cmpR op_eq (pv 1) pe_int (nomark _)) (@pss_one _ _ _ (ps_expr (pe_me (pv 0) T.cl_Shares h_Shares_more (hr.mono (by decide)) hx (@pa_cn _ _ _ _ _ (pv 2) pa_nil rfl)))) (@pss_one _ _ _ (ps_if (pt_cmpR op_eq (pv 1) pe_int (nomark _)) (@pss_one _ _ _ (ps_expr (pe_me (pv 0) T.cl_Shares h_Shares_less (hr.mono (by decide)) hx (@pa_cn _ _ _ _ _ (pv 2) pa_nil rfl)))) (@pss_one _ _ _ (ps_if (pt_cmpR op_eq (pv 1) pe_int (nomark _)) (@pss_one _ _ _ (ps_expr (pe_me (pv 0) T.cl_Shares h_Shares_leaf (hr.mono (by decide)) hx (@pa_cn _ _ _ _ _ (pv 2) (@pa_cn _ _ _ _ _ pe_int pa_nil rfl) rfl)))) (@pss_one _ _ _ (ps_if (pt_cmpR op_eq (pv 1) pe_int (nomark _)) (@pss_one _ _ _ (ps_expr (pe_me (pv 0) T.cl_Shares h_Shares_put (hr.mono (by decide)) hx (@pa_cn _ _ _ _ _ (pv 2) (@pa_cn _ _ _ _ _ pe_int (@pa_cn _ _ _ _ _ (pe_mk h_Fresh___init__ (hr.mono (by decide)) (by rfl) T.m_Fresh hx (@pa_cn _ _ _ _ _ (pe_op op_mod (pv 3) pe_int) pa_nil rfl)) pa_nil rfl) rfl) rfl)))) (@pss_one _ _ _ (ps_expr (pe_me (pv 0) T.cl_Shares h_Shares_parts (hr.mono (by decide)) hx (@pa_cn _ _ _ _ _ (pv 2) pa_nil rfl)))))))))))))))))
      (fun pn A' xe => (@pss_one _ _ _ (@ps_set _ _ 4 _ _ _ _ sc__law_refusal.nd rfl (by first | exact Or.inl rfl | exact Or.inr rfl) (pv 5) (by rfl) (by first | exact Or.inl rfl | exact Or.inr rfl)))))
      (@pss_one _ _ _ (@ps_ret _ _ _ _ (pv 4))))), ?_⟩
  have t1 := T.cl_Shares
  have x0 := T.s_NoName; have x1 := T.s_Unlike; have x2 := T.s_NoShare
  have SA := S
  obtain ⟨dx, d, kvs, ks, ent, S', hm⟩ := S
  have hp := S'.ob
  have okr : OkR (k % 4) := ⟨by omega, by omega⟩
  have ref : ∀ (D : Ends) (σ : St) (H1 : Hp) (j : Nat), True := fun _ _ _ _ => trivial
  rcases rf with ⟨rfl, wv, no⟩ | ⟨rfl, wv, bad⟩ | ⟨rfl, wv, ok, gs, u, h, ne⟩ | ⟨rfl, rfl, ok, fit⟩
  · rcases wv with rfl | rfl | rfl | rfl | rfl
    · walk_at "go"
      refine ⟨fun gs u h => absurd h (by rw [no]; simp), fun _ => ?_⟩
      walk_at "go"
      intro e he
      generalize hh : upd _ e _ = H1
      obtain ⟨s1, e1⟩ := newO he hh
      clear hh
      walk_at "go"
      exact kk _ H1 (fun z => absurd z (by decide)) (fun _ => ⟨e, rfl, e1⟩) s1
    · walk_at "go"
      refine ⟨fun gs u h => absurd h (by rw [no]; simp), fun gs u h => absurd h (by rw [no]; simp), fun _ => ?_⟩
      walk_at "go"
      intro e he
      generalize hh : upd _ e _ = H1
      obtain ⟨s1, e1⟩ := newO he hh
      clear hh
      walk_at "go"
      exact kk _ H1 (fun z => absurd z (by decide)) (fun _ => ⟨e, rfl, e1⟩) s1
    · walk_at "go"
      refine ⟨fun gs u g h => absurd h (by rw [no]; simp), fun _ => ?_⟩
      walk_at "go"
      intro e he
      generalize hh : upd _ e _ = H1
      obtain ⟨s1, e1⟩ := newO he hh
      clear hh
      walk_at "go"
      exact kk _ H1 (fun z => absurd z (by decide)) (fun _ => ⟨e, rfl, e1⟩) s1
    · walk_at "go"
      refine fun y dy hy hdy ne => ⟨y, dy, a.c_Fresh, k % 4, rfl, upd_same, T.cl_Fresh, T.n_Fresh_rights, fun _ => ⟨rfl, ?_⟩, fun z => absurd okr z⟩
      generalize hh : upd (upd (upd _ dy _) y _) y _ = H0
      obtain ⟨s0, e0⟩ := newI hy hdy hh
      clear hh
      have lf : LfAt a H0 y (.fresh (k % 4)) := ⟨dy, e0⟩
      have S0 := SA.same s0
      have hp0 := s0 _ _ hp
      walk_at "go"
      refine ⟨fun gs u h => absurd h (by rw [no]; simp), fun _ => ?_⟩
      walk_at "go"
      intro e he
      generalize hh : upd _ e _ = H1
      obtain ⟨s1, e1⟩ := newO he hh
      clear hh
      walk_at "go"
      exact kk _ H1 (fun z => absurd z (by decide)) (fun _ => ⟨e, rfl, e1⟩) (s0.trans s1)
    · walk_at "go"
      refine ⟨fun gs u h => absurd h (by rw [no]; simp), fun _ => ?_⟩
      walk_at "go"
      intro e he
      generalize hh : upd _ e _ = H1
      obtain ⟨s1, e1⟩ := newO he hh
      clear hh
      walk_at "go"
      exact kk _ H1 (fun z => absurd z (by decide)) (fun _ => ⟨e, rfl, e1⟩) s1
  · rcases wv with rfl | rfl
    · walk_at "go"
      refine ⟨fun z => absurd z bad, fun _ => ?_, fun z => absurd z bad⟩
      walk_at "go"
      intro e he
      generalize hh : upd _ e _ = H1
      obtain ⟨s1, e1⟩ := newO he hh
      clear hh
      walk_at "go"
      exact kk _ H1 (fun z => absurd z (by decide)) (fun _ => ⟨e, rfl, e1⟩) s1
    · walk_at "go"
      refine ⟨fun z => absurd z bad, fun _ => ?_, fun z => absurd z bad⟩
      walk_at "go"
      intro e he
      generalize hh : upd _ e _ = H1
      obtain ⟨s1, e1⟩ := newO he hh
      clear hh
      walk_at "go"
      exact kk _ H1 (fun z => absurd z (by decide)) (fun _ => ⟨e, rfl, e1⟩) s1
  · rcases wv with rfl | rfl
    · walk_at "go"
      refine ⟨fun _ fit => absurd (fit gs u h) ne, fun z => absurd ok z, fun _ gs' u' h' _ => ?_⟩
      walk_at "go"
      intro e he
      generalize hh : upd _ e _ = H1
      obtain ⟨s1, e1⟩ := newO he hh
      clear hh
      walk_at "go"
      exact kk _ H1 (fun z => absurd z (by decide)) (fun _ => ⟨e, rfl, e1⟩) s1
    · walk_at "go"
      refine ⟨fun _ fit => absurd (fit gs u h) ne, fun z => absurd ok z, fun _ gs' u' h' _ => ?_⟩
      walk_at "go"
      intro e he
      generalize hh : upd _ e _ = H1
      obtain ⟨s1, e1⟩ := newO he hh
      clear hh
      walk_at "go"
      exact kk _ H1 (fun z => absurd z (by decide)) (fun _ => ⟨e, rfl, e1⟩) s1
  · walk_at "go"
    refine ⟨fun _ _ => ?_, fun z => absurd ok z, fun _ gs' u' h' ne => absurd (fit gs' u' h') ne⟩
    walk_at "go"
    exact kk _ H (fun _ => rfl) (fun z => absurd rfl z) (.refl _)
theorem ok__law_code {dvs : List V} (R : RawF K mg "_law_code" s__law_code ["_law_refusal_here"] dvs) (T : Txt K mg a) :
    HasFn P w K mg base 1 "_law_code" ["_law_refusal_here"] (spCode31 a) dvs := by
  refine R.ok sc__law_code (fun vs H Q E h => ?_) (fun f cdv A outer s H vs Q E hr h => ?_)
  · obtain ⟨v, i, rfl, _⟩ := h
    rfl
  obtain ⟨v, i, rfl, vn, ve, i3, k⟩ := h
  refine ⟨_, (@pss_cons _ _ _ _ _ (ps_if (pt_cmpR op_isN (pv 0) pe_non (nomark _)) (@pss_one _ _ _ (@ps_ret _ _ _ _ pe_int)) pss_nil)
      (@pss_cons _ _ _ _ _ (ps_if (PW.pt (pw_or (pt_not (pt_val (pe_callB call_isinst (by rfl) T.b_isinstance PyProof.Rows.Boot.«isinstance» (@pa_cn _ _ _ _ _ (pv 0) (@pa_cn _ _ _ _ _ (pe_bltn (v := .ty "ValueError") (by rfl) T.b_ValueError PyProof.Rows.Boot.«ValueError» rfl) pa_nil rfl) rfl)))) (pw_or1 (pt_val (pe_callB call_isinstT (by rfl) T.b_isinstance PyProof.Rows.Boot.«isinstance» (@pa_cn _ _ _ _ _ (pv 0) (@pa_cn _ _ _ _ _ (@pe_tup _ _ _ _ _ (@pa_cn _ _ _ _ _ (pe_glob (v := .ref a.c_NoNumber) (by rfl) T.m_NoNumber rfl) (@pa_cn _ _ _ _ _ (pe_glob (v := .ref a.c_NoStretch) (by rfl) T.m_NoStretch rfl) pa_nil rfl) rfl)) pa_nil rfl) rfl)))))) (@pss_one _ _ _ (@ps_ret _ _ _ _ pe_int)) pss_nil)
      (@pss_cons _ _ _ _ _ (@ps_set _ _ 1 _ _ _ _ sc__law_code.nd rfl (by first | exact Or.inl rfl | exact Or.inr rfl) (@pe_lst _ _ _ _ (@pa_cn _ _ _ _ _ (pe_callB call_isinst (by rfl) T.b_isinstance PyProof.Rows.Boot.«isinstance» (@pa_cn _ _ _ _ _ (pv 0) (@pa_cn _ _ _ _ _ (pe_glob (v := .ref a.c_NoName) (by rfl) T.m_NoName rfl) pa_nil rfl) rfl)) (@pa_cn _ _ _ _ _ (pe_callB call_isinst (by rfl) T.b_isinstance PyProof.Rows.Boot.«isinstance» (@pa_cn _ _ _ _ _ (pv 0) (@pa_cn _ _ _ _ _ (pe_glob (v := .ref a.c_Unlike) (by rfl) T.m_Unlike rfl) pa_nil rfl) rfl)) (@pa_cn _ _ _ _ _ (pe_callB call_isinst (by rfl) T.b_isinstance PyProof.Rows.Boot.«isinstance» (@pa_cn _ _ _ _ _ (pv 0) (@pa_cn _ _ _ _ _ (pe_glob (v := .ref a.c_NoShare) (by rfl) T.m_NoShare rfl) pa_nil rfl) rfl)) pa_nil rfl) rfl) rfl)) (by rfl) (by first | exact Or.inl rfl | exact Or.inr rfl))
      (@pss_cons _ _ _ _ _ (ps_if (pt_cmpR op_ne (pe_bm PySem.F.plainAttrs_list PySem.F.slot_list_count PySem.F.type_list_count mt_countV (pv 1) (@pa_cn _ _ _ _ _ pe_bl pa_nil rfl)) pe_int (nomark _)) (@pss_one _ _ _ (@ps_ret _ _ _ _ pe_int)) pss_nil)
      (@pss_one _ _ _ (@ps_ret _ _ _ _ (pe_op op_add pe_int (pe_bm PySem.F.plainAttrs_list PySem.F.slot_list_index PySem.F.type_list_index mt_indexV (pv 1) (@pa_cn _ _ _ _ _ pe_bl pa_nil rfl))))))))), ?_⟩
  have iv : i = 3 ∨ i = 0 ∨ i = 1 ∨ i = 2 := by omega
  rcases iv with rfl | rfl | rfl | rfl
  · rw [vn rfl]
    walk_at "go"
    exact k H (.refl _)
  · obtain ⟨e, rfl, he⟩ := ve (by decide)
    have he : H e = some (exO e (.ref a.c_NoName) none) := he
    have ty : TyE K H (.ref e) (.ref a.c_NoName) := .exc he T.i_NoName T.isk
    have f0 := T.e_NoName_NoName; have f1 := T.e_NoName_Unlike; have f2 := T.e_NoName_NoShare; have f3 := T.v_NoName; have f4 := T.n_NoName
    walk_at "go"
    intro tq htq
    generalize hh : upd _ tq _ = H1
    obtain ⟨s1, e1⟩ := newO htq hh
    clear hh
    have ty1 : TyE K H1 (.ref e) (.ref a.c_NoName) := .exc (s1 _ _ he) T.i_NoName T.isk
    walk_at "go"
    intro lq hlq
    generalize hh : upd _ lq _ = H2
    obtain ⟨s2, e2⟩ := newO hlq hh
    clear hh
    have fl : [V.bl true, V.bl false, V.bl false].all flatV = true := rfl
    have fy : flatV (V.bl true) = true := rfl
    have q1 : ∃ z, [V.bl true, V.bl false, V.bl false][0]? = some z ∧ eqV z (V.bl true) = true := ⟨_, rfl, rfl⟩
    have q2 : ∀ m z, m < 0 → [V.bl true, V.bl false, V.bl false][m]? = some z → eqV z (V.bl true) = false := fun m z hm hz => by
      match m, hm with
      | m + 0, hm => omega
    walk_at "go"
    exact k H2 (s1.trans s2)
  · obtain ⟨e, rfl, he⟩ := ve (by decide)
    have he : H e = some (exO e (.ref a.c_Unlike) none) := he
    have ty : TyE K H (.ref e) (.ref a.c_Unlike) := .exc he T.i_Unlike T.isk
    have f0 := T.e_Unlike_NoName; have f1 := T.e_Unlike_Unlike; have f2 := T.e_Unlike_NoShare; have f3 := T.v_Unlike; have f4 := T.n_Unlike
    walk_at "go"
    intro tq htq
    generalize hh : upd _ tq _ = H1
    obtain ⟨s1, e1⟩ := newO htq hh
    clear hh
    have ty1 : TyE K H1 (.ref e) (.ref a.c_Unlike) := .exc (s1 _ _ he) T.i_Unlike T.isk
    walk_at "go"
    intro lq hlq
    generalize hh : upd _ lq _ = H2
    obtain ⟨s2, e2⟩ := newO hlq hh
    clear hh
    have fl : [V.bl false, V.bl true, V.bl false].all flatV = true := rfl
    have fy : flatV (V.bl true) = true := rfl
    have q1 : ∃ z, [V.bl false, V.bl true, V.bl false][1]? = some z ∧ eqV z (V.bl true) = true := ⟨_, rfl, rfl⟩
    have q2 : ∀ m z, m < 1 → [V.bl false, V.bl true, V.bl false][m]? = some z → eqV z (V.bl true) = false := fun m z hm hz => by
      match m, hm with
      | 0, _ => cases hz; rfl
      | m + 1, hm => omega
    walk_at "go"
    exact k H2 (s1.trans s2)
  · obtain ⟨e, rfl, he⟩ := ve (by decide)
    have he : H e = some (exO e (.ref a.c_NoShare) none) := he
    have ty : TyE K H (.ref e) (.ref a.c_NoShare) := .exc he T.i_NoShare T.isk
    have f0 := T.e_NoShare_NoName; have f1 := T.e_NoShare_Unlike; have f2 := T.e_NoShare_NoShare; have f3 := T.v_NoShare; have f4 := T.n_NoShare
    walk_at "go"
    intro tq htq
    generalize hh : upd _ tq _ = H1
    obtain ⟨s1, e1⟩ := newO htq hh
    clear hh
    have ty1 : TyE K H1 (.ref e) (.ref a.c_NoShare) := .exc (s1 _ _ he) T.i_NoShare T.isk
    walk_at "go"
    intro lq hlq
    generalize hh : upd _ lq _ = H2
    obtain ⟨s2, e2⟩ := newO hlq hh
    clear hh
    have fl : [V.bl false, V.bl false, V.bl true].all flatV = true := rfl
    have fy : flatV (V.bl true) = true := rfl
    have q1 : ∃ z, [V.bl false, V.bl false, V.bl true][2]? = some z ∧ eqV z (V.bl true) = true := ⟨_, rfl, rfl⟩
    have q2 : ∀ m z, m < 2 → [V.bl false, V.bl false, V.bl true][m]? = some z → eqV z (V.bl true) = false := fun m z hm hz => by
      match m, hm with
      | 0, _ => cases hz; rfl
      | 1, _ => cases hz; rfl
      | m + 2, hm => omega
    walk_at "go"
    exact k H2 (s1.trans s2)
end
end K31

set_option maxHeartbeats 4000000
namespace K31
open PySem L2
def leT (x y : Str) : Prop := ¬ y.cps.toList < x.cps.toList
theorem leT_trans {x y z : Str} (h1 : leT x y) (h2 : leT y z) : leT x z := by
  have a1 : x.cps.toList ≤ y.cps.toList := h1
  have a2 : y.cps.toList ≤ z.cps.toList := h2
  exact List.le_trans a1 a2
theorem leT_antisymm {x y : Str} (h1 : leT x y) (h2 : leT y x) : x = y := by
  have a1 : x.cps.toList ≤ y.cps.toList := h1
  have a2 : y.cps.toList ≤ x.cps.toList := h2
  have e := List.le_antisymm a1 a2
  cases x; cases y
  congr 1
  exact Array.toList_inj.mp e
theorem rising_pw : ∀ (p : Str) (l : List Str), PyProof.Rows.risingS p l = true → (p :: l).Pairwise leT
  | p, [], _ => by simp
  | p, x :: r, h => by
    have h : (!PySem.Spec.ltCps x.cps.toList p.cps.toList && PyProof.Rows.risingS x r) = true := h
    rw [Bool.and_eq_true, Bool.not_eq_true'] at h
    have ih := rising_pw x r h.2
    have px : leT p x := by
      have := h.1
      rw [PyProof.Rows.ltCps_eq] at this
      exact of_decide_eq_false this
    refine List.pairwise_cons.mpr ⟨fun y hy => ?_, ih⟩
    rcases List.mem_cons.mp hy with q | q
    · rw [q]; exact px
    · exact leT_trans px ((List.pairwise_cons.mp ih).1 y q)
theorem sortedS_pw {l : List Str} (h : PyProof.Rows.sortedS l = true) : l.Pairwise leT := by
  cases l with
  | nil => simp
  | cons x r => exact rising_pw x r h
theorem sorted_oneT : ∀ {l1 l2 : List Str}, l1.Pairwise leT → l2.Pairwise leT → l1.Nodup → l2.Nodup → (∀ n, n ∈ l1 ↔ n ∈ l2) → l1 = l2
  | [], [], _, _, _, _, _ => rfl
  | [], b :: _, _, _, _, _, m => absurd ((m b).mpr (.head _)) (by simp)
  | a :: _, [], _, _, _, _, m => absurd ((m a).mp (.head _)) (by simp)
  | a :: r1, b :: r2, p1, p2, n1, n2, m => by
    have p1' := List.pairwise_cons.mp p1
    have p2' := List.pairwise_cons.mp p2
    have n1' := List.nodup_cons.mp n1
    have n2' := List.nodup_cons.mp n2
    have e : a = b := by
      rcases List.mem_cons.mp ((m a).mp (.head _)) with q | q
      · exact q
      · rcases List.mem_cons.mp ((m b).mpr (.head _)) with q' | q'
        · exact q'.symm
        · exact leT_antisymm (p1'.1 b q') (p2'.1 a q)
    subst e
    congr 1
    refine sorted_oneT p1'.2 p2'.2 n1'.2 n2'.2 fun n => ⟨fun h => ?_, fun h => ?_⟩
    · rcases List.mem_cons.mp ((m n).mp (.tail _ h)) with q | q
      · rw [q] at h; exact absurd h n1'.1
      · exact q
    · rcases List.mem_cons.mp ((m n).mpr (.tail _ h)) with q | q
      · rw [q] at h; exact absurd h n2'.1
      · exact q
theorem NameOk.strok {x : Str} (h : NameOk x) : StrOk x := by
  unfold StrOk
  simp only [PyData.canLay0]
  unfold PyData.strOk
  rw [Array.all_eq_true_iff_forall_mem]
  intro c hc
  have := h.2 c (by simpa using hc)
  simp
  omega
def NamesOk (m : ShM) : Prop := ∀ n v, m n = some v → NameOk n
theorem row3_tid {n : Str} {a b : Int} (h : StrOk n) : Tid 2 (.tuple [.str n, .int a, .int b]) := Tid.tuple fun d hd => by
  simp only [List.mem_cons, List.not_mem_nil, or_false] at hd
  rcases hd with rfl | rfl | rfl
  · exact Tid.str h
  · exact Tid.int _
  · exact Tid.int _
theorem row3_dat {K : PySem.W.Frag} {H : Hp} {t : Addr} {n : Str} {a b : Int} (h : H t = some (.tup [.str n, .int a, .int b])) : DatV K H (.ref t) (.tuple [.str n, .int a, .int b]) := .tup (SqT.of h) (.cons (.str _) (.cons (.int _) (.cons (.int _) .nil)))
theorem flat_oneS {v : V} : ∀ n : Nat, (List.replicate n [v]).flatten = List.replicate n v
  | 0 => rfl
  | n + 1 => by rw [List.replicate_succ, List.flatten_cons, flat_oneS n, List.replicate_succ]; rfl
theorem rep_dat {K : PySem.W.Frag} {H : Hp} {l : Addr} {us : List Addr} {n : Nat} (hl : H l = some (.lst (us.map V.ref))) (ul : us.length = n) (h : ∀ t ∈ us, H t = some (.tup (Lf.fresh 3).row)) : DatV K H (.ref l) (.list (List.replicate n (.tuple (Lf.fresh 3).dat))) := by
  refine .lst (SqL.of hl) (datAll_of (by rw [List.length_map, List.length_replicate]; exact ul) fun i x d h1 h2 => ?_)
  rw [List.getElem?_map] at h1
  obtain ⟨t, ht, rfl⟩ := Option.map_eq_some_iff.mp h1
  rw [List.eq_of_mem_replicate (List.mem_of_getElem? h2)]
  exact .tup (SqT.of (h t (List.mem_of_getElem? ht))) (Lf.datAll _ _ _)
theorem ShAt.wl {a : Adr} {H : Hp} {p l : Addr} {m : ShM} {fp : List Addr} {zs zs' : List V} (S : ShAt a H p m fp) (hl : H l = some (.lst zs)) (lf : l ∉ fp) : ShAt a (upd H l (.lst zs')) p m fp :=
  S.keep (fun b u e hb => by rw [upd_ne fun z => lf (by rw [← z]; exact hb)]; exact e) fun y g ⟨dy, e⟩ => ⟨dy, by rw [upd_ne fun z => by rw [z, hl] at e; cases e]; exact e⟩
def spRows31 (a : Adr) : Sp := fun vs H Q _ => ∃ (p l : Addr) (us : List Addr) (ns : List Str) (m : ShM) (fp : List Addr), vs = [.ref p, .ref l] ∧ ShAt a H p m fp ∧ Few63 m ∧ NamesOk m ∧ SRows H l us ns m ∧ ∀ H', Same H H' → Q (.bl true) H'
def spFresh31 (a : Adr) : Sp := fun vs H Q _ => ∃ (p : Addr) (n : Str) (k : Int) (m : ShM) (fp : List Addr) (u : Int), vs = [.ref p, .str n, .int k] ∧ ShAt a H p m fp ∧ m n = some (List.replicate k.toNat (.fresh 3), u) ∧ 1 ≤ k ∧ k ≤ 64 ∧ ∀ H', Same H H' → Q (.bl true) H'
def spNone31 (a : Adr) : Sp := fun vs H Q _ => ∃ (p : Addr) (n : Str) (k : Int) (m : ShM) (fp : List Addr), vs = [.ref p, .str n, .int k] ∧ ShAt a H p m fp ∧ m n = none ∧ n.length ≤ sizeLine ∧ 0 ≤ k ∧ k ≤ 64 ∧ FewM m ∧ ∀ H', Same H H' → Q (.bl true) H'
section
variable {P : Program} {w : World} {K : PySem.W.Frag} {mg : Str → Option Value} {base : Heap} {a : Adr}
theorem ok__law_rows {dvs : List V} (R : RawF K mg "_law_rows" s__law_rows ["_law_shares", "_law_due"] dvs) (T : Txt K mg a)
    (h_Shares_rows : HasMe P w K mg base a.c_Shares 1 "rows" ["self"] (spSRows a) [])
    (h__law_whole : HasFn P w K mg base 1 "_law_whole" ["_law_found"] (spWhole) []) :
    HasFn P w K mg base 2 "_law_rows" ["_law_shares", "_law_due"] (spRows31 a) dvs := by
  refine R.ok sc__law_rows (fun vs H Q E h => ?_) (fun f cdv A outer s H vs Q E hr h => ?_)
  · obtain ⟨p, l, us, ns, m, fp, rfl, _⟩ := h
    rfl
  obtain ⟨p, l, us, ns, m, fp, rfl, S, few, nok, D, k⟩ := h
  refine ⟨_, (@pss_cons _ _ _ _ _ (@ps_set _ _ 2 _ _ _ _ sc__law_rows.nd rfl (by first | exact Or.inl rfl | exact Or.inr rfl) (pe_me0 (pv 0) T.cl_Shares h_Shares_rows (hr.mono (by decide)) pass_def) (by rfl) (by first | exact Or.inl rfl | exact Or.inr rfl))
      (@pss_cons _ _ _ _ _ (ps_if (PW.pt (pw_or (pt_not (pt_val (pe_callB call_isinst (by rfl) T.b_isinstance PyProof.Rows.Boot.«isinstance» (@pa_cn _ _ _ _ _ (pv 2) (@pa_cn _ _ _ _ _ (pe_bltn (v := .ty "list") (by rfl) T.b_list PyProof.Rows.Boot.«list» rfl) pa_nil rfl) rfl)))) (pw_or1 (pt_cmpR op_ne (pe_callB call_len_seq (by rfl) T.b_len PySem.boot_len (@pa_cn _ _ _ _ _ (pv 2) pa_nil rfl)) (pe_callB call_len_seq (by rfl) T.b_len PySem.boot_len (@pa_cn _ _ _ _ _ (pv 1) pa_nil rfl)) (nomark _))))) (@pss_one _ _ _ (@ps_ret _ _ _ _ pe_bl)) pss_nil)
      (@pss_cons _ _ _ _ _ (ps_for own_def rfl (pi_range1 (by rfl) T.b_range (@pa_cn _ _ _ _ _ (pe_callB call_len_seq (by rfl) T.b_len PySem.boot_len (@pa_cn _ _ _ _ _ (pv 1) pa_nil rfl)) pa_nil rfl)) (pg_name (i := 3) sc__law_rows.nd rfl (by first | exact Or.inl rfl | exact Or.inr rfl))
      (@pss_cons _ _ _ _ _ (ps_if (PW.pt (pw_or (pt_not (pt_val (pe_callB call_isinst (by rfl) T.b_isinstance PyProof.Rows.Boot.«isinstance» (@pa_cn _ _ _ _ _ (@pe_ix _ _ _ _ _ _ _ ix_list (pv 2) (pv 3) (fun _ _ => rfl)) (@pa_cn _ _ _ _ _ (pe_bltn (v := .ty "tuple") (by rfl) T.b_tuple PyProof.Rows.Boot.«tuple» rfl) pa_nil rfl) rfl)))) (pw_or (pt_cmpR op_ne (pe_callB call_len_seq (by rfl) T.b_len PySem.boot_len (@pa_cn _ _ _ _ _ (@pe_ix _ _ _ _ _ _ _ ix_list (pv 2) (pv 3) (fun _ _ => rfl)) pa_nil rfl)) pe_int (nomark _)) (pw_or1 (pt_not (pt_val (pe_callB call_isinst (by rfl) T.b_isinstance PyProof.Rows.Boot.«isinstance» (@pa_cn _ _ _ _ _ (@pe_ix _ _ _ _ _ _ _ ix_tup (@pe_ix _ _ _ _ _ _ _ ix_list (pv 2) (pv 3) (fun _ _ => rfl)) pe_int (fun _ _ => rfl)) (@pa_cn _ _ _ _ _ (pe_bltn (v := .ty "str") (by rfl) T.b_str PyProof.Rows.Boot.«str» rfl) pa_nil rfl) rfl)))))))) (@pss_one _ _ _ (@ps_ret _ _ _ _ pe_bl)) pss_nil)
      (@pss_one _ _ _ (ps_if (PW.pt (pw_or (pt_not (pt_val (pe_fn h__law_whole (hr.mono (by decide)) (by rfl) pass_def (@pa_cn _ _ _ _ _ (@pe_ix _ _ _ _ _ _ _ ix_tup (@pe_ix _ _ _ _ _ _ _ ix_list (pv 2) (pv 3) (fun _ _ => rfl)) pe_int (fun _ _ => rfl)) pa_nil rfl)))) (pw_or (pt_not (pt_val (pe_fn h__law_whole (hr.mono (by decide)) (by rfl) pass_def (@pa_cn _ _ _ _ _ (@pe_ix _ _ _ _ _ _ _ ix_tup (@pe_ix _ _ _ _ _ _ _ ix_list (pv 2) (pv 3) (fun _ _ => rfl)) pe_int (fun _ _ => rfl)) pa_nil rfl)))) (pw_or1 (pt_cmpR (op_neD hr.units) (@pe_ix _ _ _ _ _ _ _ ix_list (pv 2) (pv 3) (fun _ _ => rfl)) (@pe_ix _ _ _ _ _ _ _ ix_list (pv 1) (pv 3) (fun _ _ => rfl)) (nomark _)))))) (@pss_one _ _ _ (@ps_ret _ _ _ _ pe_bl)) pss_nil))))
      (@pss_one _ _ _ (@ps_ret _ _ _ _ pe_bl))))), ?_⟩
  have t1 := T.cl_Shares
  obtain ⟨dx, d, kvs0, ks0, ent, S', hm⟩ := id S
  have hp := S'.ob
  have kl := kit_self K (.type "list")
  have kt := kit_self K (.type "tuple")
  have kst := kit_self K (.type "str")
  walk_at "go"
  intro q ts ns' H1 R1 hq0 s1
  have en : ns' = ns := sorted_oneT (sortedS_pw R1.srt) (sortedS_pw D.srt) R1.nd D.nd fun n => by rw [R1.mem n, D.mem n]
  subst en
  have n64 : ns'.length < 64 := by
    obtain ⟨L, l1, l2⟩ := few
    refine Nat.lt_of_le_of_lt (nodup_len R1.nd fun n hn => ?_) l1
    obtain ⟨v, hv⟩ := (R1.mem n).mp hn
    exact l2 n v hv
  have D1 := D.same s1
  have hq1 := R1.hl
  have hl1 := D1.hl
  have l1 : (ts.map V.ref).length = ns'.length := by rw [List.length_map]; exact R1.len
  have l2 : (us.map V.ref).length = ns'.length := by rw [List.length_map]; exact D.len
  walk_at "go"
  rw [l1, l2]
  refine iteN (fun z => absurd rfl z) (fun _ => ?_)
  walk_at "go"
  refine for_range (fun i σ H' => Bx (∃ v4 : Option V, σ = [some (.ref p), some (.ref l), some (.ref q), v4] ∧ H' = H1)) ⟨_, rfl, rfl⟩ ?_ ?_
  · rintro i σ H3 hi ⟨v4, rfl, rfl⟩
    have il : i < ns'.length := by rw [l2] at hi; omega
    obtain ⟨n, hn⟩ : ∃ n, ns'[i]? = some n := ⟨_, List.getElem?_eq_getElem il⟩
    obtain ⟨t, ht⟩ : ∃ t, ts[i]? = some t := ⟨_, List.getElem?_eq_getElem (by rw [R1.len]; exact il)⟩
    obtain ⟨u', hu'⟩ : ∃ u', us[i]? = some u' := ⟨_, List.getElem?_eq_getElem (by rw [D.len]; exact il)⟩
    obtain ⟨gs, u, hmn, ett⟩ := R1.at' i t n ht hn
    obtain ⟨gs2, u2, hmn2, ett2⟩ := D1.at' i u' n hu' hn
    rw [hmn] at hmn2; cases hmn2
    have a1 : atI (ts.map V.ref) (0 + (i : Int)) = some (.ref t) := by rw [Int.zero_add]; exact atI_nat (by rw [List.getElem?_map, ht]; rfl)
    have a2 : atI (us.map V.ref) (0 + (i : Int)) = some (.ref u') := by rw [Int.zero_add]; exact atI_nat (by rw [List.getElem?_map, hu']; rfl)
    have b0 : atI [V.str n, V.int (gs.length : Nat), V.int u] 0 = some (.str n) := rfl
    have b1 : atI [V.str n, V.int (gs.length : Nat), V.int u] 1 = some (.int (gs.length : Nat)) := rfl
    have b2 : atI [V.str n, V.int (gs.length : Nat), V.int u] 2 = some (.int u) := rfl
    walk_at "go"
    refine rNeD_self (row3_dat ett) (row3_dat ett2) (row3_tid (nok n _ hmn).strok) ?_
    walk_at "go"
    exact ⟨_, rfl, rfl⟩
  · rintro σ H3 ⟨v4, rfl, rfl⟩
    walk_at "go"
    exact k H3 s1
theorem ok__law_none_stands {dvs : List V} (R : RawF K mg "_law_none_stands" s__law_none_stands ["_law_shares", "_law_name_here", "_law_many"] dvs) (T : Txt K mg a)
    (h__law_code : HasFn P w K mg base 1 "_law_code" ["_law_refusal_here"] (spCode31 a) [])
    (h__law_refusal : HasFn P w K mg base 7 "_law_refusal" ["_law_shares", "_law_way", "_law_name_here", "_law_many"] (spRef31 a) []) :
    HasFn P w K mg base 8 "_law_none_stands" ["_law_shares", "_law_name_here", "_law_many"] (spNone31 a) dvs := by
  refine R.ok sc__law_none_stands (fun vs H Q E h => ?_) (fun f cdv A outer s H vs Q E hr h => ?_)
  · obtain ⟨p, n, k, m, fp, rfl, _⟩ := h
    rfl
  obtain ⟨p, n, k, m, fp, rfl, S, no, nl, k0, k64, few, kk⟩ := h
  refine ⟨_, (pss_one (ps_ret (pe_cmpR (op_eqD hr.units) (pe_comp (xs := ["_law_way"]) (N' := ["_law_shares", "_law_name_here", "_law_many"]) rfl ⟨rfl, by decide +kernel, by decide +kernel, by dsimp only [cxOf, PyProof.Rows.envOfC]; decide +kernel, by decide +kernel, by dsimp only [cxOf]; decide +kernel, rfl⟩ (pi_range2 (by rfl) T.b_range (pa_cn pe_int (pa_cn pe_int pa_nil rfl) rfl)) (fun _ _ _ _ _ => (pg_name (i := 0) (by dsimp only [cxComp]; decide +kernel) rfl (by first | exact Or.inl rfl | exact Or.inr rfl))) (fun _ _ _ _ _ => pts_nil) (fun _ _ _ _ _ => (pe_fn h__law_code (hr.mono (by decide)) (by rfl) pass_none (pa_cn (pe_fn h__law_refusal (hr.mono (by decide)) (by rfl) pass_none (pa_cn (pv 1) (pa_cn (pv 0) (pa_cn (pv 2) (pa_cn (pv 3) pa_nil rfl) rfl) rfl) rfl)) pa_nil rfl)))) (pe_op op_rep (pe_lst (pa_cn pe_int pa_nil rfl)) pe_int) (nomark _)))), ?_⟩
  walk_at "go"
  intro acc hacc
  refine comp_rangeI (lo := 2) (n := 5) (fun i zs H' => Bx (zs = (List.replicate i (3 : Int)).map V.int ∧ H' acc = some (.lst zs) ∧ ∀ b u, H b = some u → H' b = some u)) (by rw [sizeLine_eq]; decide) ⟨rfl, upd_same, same_upd hacc⟩ ?_ ?_ ?_
  · rintro i zs H' ⟨rfl, h1, h2⟩
    exact ⟨h1, by rw [List.length_map, List.length_replicate]⟩
  · rintro i zs H1 hi ⟨rfl, h1, h2⟩ R r
    have S1 := S.same h2
    have rf : Ref31 m (2 + (i : Int)) n k 2 := .inl ⟨rfl, by omega, no⟩
    walk_at "go"
    intro v H2 v3 ve s2
    obtain ⟨e, rfl, he⟩ := ve (by decide)
    have ve2 : (2 : Nat) ≠ 3 → ∃ e', V.ref e = .ref e' ∧ H2 e' = some (exO e' (.ref (clsS a 2)) none) := fun _ => ⟨e, rfl, he⟩
    have vn2 : (2 : Nat) = 3 → V.ref e = .non := fun z => absurd z (by decide)
    walk_at "go"
    intro H3 s3
    have h13 := s3 _ _ (s2 _ _ h1)
    refine r _ _ h13 ⟨by rw [List.replicate_succ', List.map_append]; rfl, upd_same, fun b u e1 => ?_⟩
    rw [upd_ne (ne_of_none e1 hacc)]; exact s3 _ _ (s2 _ _ (h2 _ _ e1))
  · rintro zs H1 ⟨rfl, h1, h2⟩
    walk_at "go"
    intro l1 hl1
    generalize hh : upd _ l1 _ = H2
    obtain ⟨s2, e2⟩ := newO hl1 hh
    clear hh
    have zr : [V.int 3].length * (5 : Int).toNat ≤ sizeLine := by rw [sizeLine_eq]; decide
    have er : (List.replicate (5 : Int).toNat [V.int 3]).flatten = (List.replicate 5 (3 : Int)).map V.int := rfl
    walk_at "go"
    intro l2 hl2
    rw [er]
    generalize hh : upd _ l2 _ = H3
    obtain ⟨s3, e3⟩ := newO hl2 hh
    clear hh
    exact rEqD_self (.lst (SqL.of (s3 _ _ (s2 _ _ h1))) (datAll_ints _ _ _)) (.lst (SqL.of e3) (datAll_ints _ _ _)) (Tid.ints _) (kk H3 fun b u e => s3 _ _ (s2 _ _ (h2 _ _ e)))
theorem ok__law_fresh {dvs : List V} (R : RawF K mg "_law_fresh" s__law_fresh ["_law_shares", "_law_name_here", "_law_many"] dvs) (T : Txt K mg a)
    (h_Shares_parts : HasMe P w K mg base a.c_Shares 2 "parts" ["self", "name"] (spSParts a) [])
    (h_Fresh_row : HasMe P w K mg base a.c_Fresh 1 "row" ["self"] (spRowK a 0) [])
    (h_Shares_leaf : HasMe P w K mg base a.c_Shares 3 "leaf" ["self", "name", "part"] (spSLeaf a) []) :
    HasFn P w K mg base 4 "_law_fresh" ["_law_shares", "_law_name_here", "_law_many"] (spFresh31 a) dvs := by
  refine R.ok sc__law_fresh (fun vs H Q E h => ?_) (fun f cdv A outer s H vs Q E hr h => ?_)
  · obtain ⟨p, n, k, m, fp, u, rfl, _⟩ := h
    rfl
  obtain ⟨p, n, k, m, fp, u, rfl, S, h, k1, k64, kk⟩ := h
  refine ⟨_, (pss_cons (ps_set (i := 3) sc__law_fresh.nd rfl (by first | exact Or.inl rfl | exact Or.inr rfl) (pe_me (pv 0) T.cl_Shares h_Shares_parts (hr.mono (by decide)) pass_def (pa_cn (pv 1) pa_nil rfl)))
      (pss_cons (ps_if (PW.pt (pw_or (pt_not (pt_val (pe_callB call_isinst (by rfl) T.b_isinstance PyProof.Rows.Boot.«isinstance» (pa_cn (pv 3) (pa_cn (pe_bltn (v := .ty "list") (by rfl) T.b_list PyProof.Rows.Boot.«list» rfl) pa_nil rfl) rfl)))) (pw_or1 (pt_cmpR (op_neD hr.units) (pe_comp (xs := ["_law_leaf"]) (N' := ["_law_shares", "_law_name_here", "_law_many", "_law_found"]) rfl ⟨rfl, by decide +kernel, by decide +kernel, by dsimp only [cxOf, PyProof.Rows.envOfC]; decide +kernel, by decide +kernel, by dsimp only [cxOf]; decide +kernel, rfl⟩ (pi_list (pv 3)) (fun _ _ _ _ _ => (pg_name (i := 0) (by dsimp only [cxComp]; decide +kernel) rfl (by first | exact Or.inl rfl | exact Or.inr rfl))) (fun _ _ _ _ _ => pts_nil) (fun _ _ _ _ _ => (pe_meDK0 (P := P) (w := w) (K := K) (mg := mg) (base := base) rfl rfl rfl rfl rfl (k := 1) (m := "row") (dvs := []) (pv 0) (hr.mono (by decide)) pass_none (by rfl)))) (pe_op op_rep (pe_lst (pa_cn (pe_tup (pa_cn pe_str (pa_cn pe_int pa_nil rfl) rfl)) pa_nil rfl)) (pv 2)) (nomark _))))) (pss_one (ps_ret pe_bl)) pss_nil)
      (pss_cons (ps_if (PW.pt (pw_or (pt_not (pt_val (pe_callB call_isinst (by rfl) T.b_isinstance PyProof.Rows.Boot.«isinstance» (pa_cn (pe_ix ix_list (pv 3) pe_int (fun _ _ => rfl)) (pa_cn (pe_glob (v := .ref a.c_Fresh) (by rfl) T.m_Fresh rfl) pa_nil rfl) rfl)))) (pw_or1 (pt_cmpR (op_neD hr.units) (pe_meD0 (k := 1) (m := "row") (dvs := []) (pe_me (pv 0) T.cl_Shares h_Shares_leaf (hr.mono (by decide)) pass_def (pa_cn (pv 1) (pa_cn (pe_op op_sub (pv 2) pe_int) pa_nil rfl) rfl)) (hr.mono (by decide)) pass_def (by rfl)) (pe_tup (pa_cn pe_str (pa_cn pe_int pa_nil rfl) rfl)) (nomark _))))) (pss_one (ps_ret pe_bl)) pss_nil)
      (pss_cons (ps_expr (pe_bm0 PySem.F.plainAttrs_list PySem.F.slot_list_clear PySem.F.type_list_clear mt_clear (pv 3)))
      (pss_one (ps_ret (pe_cmpR op_eq (pe_callB call_len_seq (by rfl) T.b_len PySem.boot_len (pa_cn (pe_me (pv 0) T.cl_Shares h_Shares_parts (hr.mono (by decide)) pass_def (pa_cn (pv 1) pa_nil rfl)) pa_nil rfl)) (pv 2) (nomark _)))))))), ?_⟩
  have t1 := T.cl_Shares
  obtain ⟨dx, d, kvs, ks, ent, S', hm⟩ := id S
  have hp := S'.ob
  have kl := kit_self K (.type "list")
  obtain ⟨kn, ek⟩ : ∃ kn : Nat, k = (kn : Int) := ⟨k.toNat, by omega⟩
  have kt : k.toNat = kn := by omega
  rw [kt] at h
  have gl : (List.replicate kn (Lf.fresh 3)).length = kn := List.length_replicate
  have isF := T.k_Fresh_Fresh
  walk_at "go"
  refine ⟨fun gs u' h' q ys H1 L q0 s1 => ?_, fun z => absurd h (by rw [z]; simp)⟩
  rw [h] at h'; cases h'
  have hq := L.hl
  have yl : ys.length = kn := by rw [L.len, gl]
  walk_at "go"
  intro acc hacc
  refine comp_listI (xs := ys.map V.ref) (fun i zs H' => Bx (∃ us : List Addr, zs = us.map V.ref ∧ H' acc = some (.lst (us.map V.ref)) ∧ us.length = i ∧ (∀ t ∈ us, H' t = some (.tup (Lf.fresh 3).row)) ∧ ∀ b u, H1 b = some u → H' b = some u)) (by rw [List.length_map, sizeLine_eq, yl]; omega) ⟨[], rfl, upd_same, rfl, fun t h => (nomatch h), same_upd hacc⟩ ?_ ?_ ?_
  · rintro i zs H' ⟨us, rfl, h1, h2, h3, h4⟩
    exact ⟨h1, SqL.of (h4 _ _ hq), by rw [List.length_map]; exact h2⟩
  · rintro i v zs H4 hi ⟨us, rfl, h1, h2, h3, h4⟩ R r
    rw [List.getElem?_map] at hi
    obtain ⟨y, hy, rfl⟩ := Option.map_eq_some_iff.mp hi
    have il : i < kn := by rw [← yl]; exact (List.getElem?_eq_some_iff.mp hy).1
    have lf4 : LfAt a H4 y (.fresh 3) := (L.lf i y _ hy (by rw [List.getElem?_replicate, if_pos il])).same h4
    obtain ⟨dy, ey⟩ := id lf4
    have fin : ∀ t, H4 t = none → R (.ref t) (upd H4 t (.tup (Lf.fresh 3).row)) := fun t ht => by
      have tq : t ≠ acc := fun z => by rw [z, h1] at ht; cases ht
      have up : ∀ b u, H4 b = some u → b ≠ acc → upd (upd H4 t (.tup (Lf.fresh 3).row)) acc (.lst ((us ++ [t]).map V.ref)) b = some u := fun b u e1 n1 => by rw [upd_ne n1, upd_ne (ne_of_none e1 ht)]; exact e1
      have el : us.map V.ref ++ [V.ref t] = (us ++ [t]).map V.ref := by rw [List.map_append]; rfl
      refine r _ _ (by rw [upd_ne (ne_of_none h1 ht)]; exact h1) ?_
      rw [el]
      refine ⟨us ++ [t], rfl, upd_same, by rw [List.length_append, h2]; rfl, fun t' ht' => ?_, fun b u e1 => up _ _ (h4 _ _ e1) (ne_of_none e1 hacc)⟩
      rcases List.mem_append.mp ht' with q | q
      · have e3 := h3 t' q
        exact up _ _ e3 fun z => by rw [z, h1] at e3; cases e3
      · rw [List.mem_singleton.mp q, upd_ne tq, upd_same]
    exact ⟨_, rfl, y, _, _, _, _, _, rfl, ey, T.cl_Fresh, h_Fresh_row, rfl, y, _, rfl, lf4, rfl, fin⟩
  · rintro zs H2 ⟨us, rfl, h1, h2, h3, h4⟩
    walk_at "go"
    intro t0 ht0
    generalize hh : upd _ t0 _ = H3
    obtain ⟨s3, e3⟩ := newO ht0 hh
    clear hh
    walk_at "go"
    intro l0 hl0
    generalize hh : upd _ l0 _ = H4
    obtain ⟨s4, e4⟩ := newO hl0 hh
    clear hh
    have zr : [V.ref t0].length * k.toNat ≤ sizeLine := by rw [sizeLine_eq, List.length_singleton, Nat.one_mul]; omega
    have er : (List.replicate k.toNat [V.ref t0]).flatten = (List.replicate kn t0).map V.ref := by rw [kt, flat_oneS, List.map_replicate]
    walk_at "go"
    intro l1 hl1
    rw [er]
    generalize hh : upd _ l1 _ = H5
    obtain ⟨s5, e5⟩ := newO hl1 hh
    clear hh
    have s25 := (s3.trans s4).trans s5
    have et0 : H5 t0 = some (.tup (Lf.fresh 3).row) := s5 _ _ (s4 _ _ e3)
    have ul : us.length = kn := by rw [h2, List.length_map, yl]
    refine rNeD_self (d := .list (List.replicate kn (.tuple (Lf.fresh 3).dat))) (rep_dat (s25 _ _ h1) ul fun t ht => s25 _ _ (h3 t ht)) (rep_dat e5 List.length_replicate fun t ht => by rw [List.eq_of_mem_replicate ht]; exact et0) (Tid.list fun d hd => by rw [List.eq_of_mem_replicate hd]; exact Lf.tid _ True.intro) ?_
    have s15 : Same H1 H5 := fun b u e => s25 _ _ (h4 _ _ e)
    have hq5 := s15 _ _ hq
    obtain ⟨y0, hy0⟩ : ∃ y0, ys[0]? = some y0 := ⟨_, List.getElem?_eq_getElem (by rw [yl]; omega)⟩
    have ay0 : atI (ys.map V.ref) 0 = some (.ref y0) := atI_nat (j := 0) (by rw [List.getElem?_map, hy0]; rfl)
    obtain ⟨dy0, ey0⟩ : LfAt a H5 y0 (.fresh 3) := (L.lf 0 y0 _ hy0 (by rw [List.getElem?_replicate, if_pos (by omega)])).same s15
    have ty0 : TyE K H5 (.ref y0) (.ref a.c_Fresh) := T.ti_Fresh ey0
    have S5 := (S.same s1).same s15
    have hp5 := s15 _ _ (s1 _ _ hp)
    walk_at "go"
    refine ⟨fun gs' u' g' h' i0 hg y lf => ?_, fun z => absurd ⟨by omega, by rw [gl]; omega⟩ (z _ _ h)⟩
    rw [h] at h'; cases h'
    have hg' : g' = .fresh 3 := List.eq_of_mem_replicate (List.mem_of_getElem? hg)
    subst hg'
    obtain ⟨dy, ey⟩ := id lf
    have lk : (Lf.fresh 3).fs.lookup ("row" : Str) = none := by walk_at "lk"
    have cF := T.cl_Fresh
    walk_at "go"
    intro ta hta
    generalize hh : upd _ ta _ = H6
    obtain ⟨s6, e6⟩ := newO hta hh
    clear hh
    walk_at "go"
    intro tb htb
    generalize hh : upd _ tb _ = H7
    obtain ⟨s7, e7⟩ := newO htb hh
    clear hh
    have e67 : H7 ta = some (.tup (Lf.fresh 3).row) := s7 _ _ e6
    have e7' : H7 tb = some (.tup (Lf.fresh 3).row) := e7
    refine rNeD_self (d := .tuple (Lf.fresh 3).dat) (.tup (SqT.of e67) (Lf.datAll _ _ _)) (.tup (SqT.of e7') (Lf.datAll _ _ _)) (Lf.tid _ True.intro) ?_
    have s57 := s6.trans s7
    have hq7 := s57 _ _ hq5
    have S7 := S5.same s57
    have qf : q ∉ fp := fun z => by obtain ⟨u, e⟩ := S.live q z; rw [q0] at e; cases e
    have S8 : ShAt a (upd H7 q (.lst [])) p m fp := S7.wl hq7 qf
    obtain ⟨dx8, d8, kvs8, ks8, ent8, S8', _⟩ := id S8
    have hp8 := S8'.ob
    walk_at "go"
    refine ⟨fun gs' u' h' q2 ys2 H9 L9 q20 s9 => ?_, fun z => absurd h (by rw [z]; simp)⟩
    rw [h] at h'; cases h'
    have hq9 := L9.hl
    walk_at "go"
    have el : (ys2.map V.ref).length = kn := by rw [List.length_map, L9.len, gl]
    rw [el, ← ek, decide_eq_true rfl]
    refine kk H9 fun b u e => s9 _ _ ?_
    rw [upd_ne (ne_of_none e q0)]
    exact s57 _ _ (s15 _ _ (s1 _ _ e))
end
end K31

set_option maxHeartbeats 4000000
namespace K31
open PySem L2
def spLaw (K : PySem.W.Frag) : Sp := fun vs H Q _ => ∃ (a : Addr) (ns : List Int), vs = [.ref a] ∧ SqL K H a (ns.map V.int) ∧ ns.length ≤ 63 ∧ ∀ H', Q (.bl true) H'
theorem used_none {m : ShM} {n : Str} {k : Int} (h : m n = none) : usedM m n k = setM m n (some (List.replicate k.toNat (.fresh 3), k)) := by unfold usedM; rw [h]
theorem used_some {m : ShM} {n : Str} {k u : Int} {gs : List Lf} (h : m n = some (gs, u)) : usedM m n k = setM m n (some (gs, u + k)) := by unfold usedM; rw [h]
def m1 (x : Str) (k : Int) : ShM := setM (fun _ => none) x (some (List.replicate k.toNat (.fresh 3), k))
theorem m1_x {x : Str} {k : Int} : m1 x k x = some (List.replicate k.toNat (.fresh 3), k) := setM_self
theorem m1_n {x n : Str} {k : Int} (h : n ≠ x) : m1 x k n = none := by unfold m1 setM; rw [if_neg h]
theorem m1_only {x n : Str} {k : Int} {v : List Lf × Int} (h : m1 x k n = some v) : n = x := Classical.byContradiction fun w => by rw [m1_n w] at h; cases h
theorem rl {k : Int} (h : 0 ≤ k) : ((List.replicate k.toNat (Lf.fresh 3)).length : Int) = k := by rw [List.length_replicate]; omega
theorem rows0 {H : Hp} {l : Addr} (h : H l = some (.lst [])) : SRows H l [] [] (fun _ => none) := ⟨h, rfl, fun i t n h => (nomatch h), rfl, List.nodup_nil, fun n => ⟨fun h => (nomatch h), fun ⟨v, h⟩ => (nomatch h)⟩⟩
theorem rows1 {H : Hp} {l t : Addr} {x : Str} {k : Int} (h : H l = some (.lst [.ref t])) (ht : H t = some (.tup [.str x, .int k, .int k])) (k0 : 0 ≤ k) : SRows H l [t] [x] (m1 x k) := by
  refine ⟨h, rfl, fun i t' n h1 h2 => ?_, rfl, by simp, fun n => ⟨fun h => ?_, fun ⟨v, h⟩ => ?_⟩⟩
  · match i, h1, h2 with
    | 0, h1, h2 => cases h1; cases h2; exact ⟨_, _, m1_x, by rw [ht, rl k0]⟩
  · rw [List.mem_singleton.mp h]; exact ⟨_, m1_x⟩
  · rw [m1_only h]; exact .head _
theorem rows2 {H : Hp} {l t1 t2 : Addr} {n1 n2 : Str} {m : ShM} {g1 g2 : List Lf} {u1 u2 : Int} (h : H l = some (.lst [.ref t1, .ref t2])) (h1 : H t1 = some (.tup [.str n1, .int (g1.length : Nat), .int u1])) (h2 : H t2 = some (.tup [.str n2, .int (g2.length : Nat), .int u2])) (q1 : m n1 = some (g1, u1)) (q2 : m n2 = some (g2, u2)) (only : ∀ n v, m n = some v → n = n1 ∨ n = n2) (ne : n1 ≠ n2) (lt : ¬ n2.cps.toList < n1.cps.toList) : SRows H l [t1, t2] [n1, n2] m := by
  refine ⟨h, rfl, fun i t' n e1 e2 => ?_, ?_, by simp [ne], fun n => ⟨fun e => ?_, fun ⟨v, e⟩ => ?_⟩⟩
  · match i, e1, e2 with
    | 0, e1, e2 => cases e1; cases e2; exact ⟨_, _, q1, h1⟩
    | 1, e1, e2 => cases e1; cases e2; exact ⟨_, _, q2, h2⟩
  · show (!PySem.Spec.ltCps n2.cps.toList n1.cps.toList && true) = true
    rw [PyProof.Rows.ltCps_eq, decide_eq_false lt]
    rfl
  · rcases List.mem_cons.mp e with q | q
    · rw [q]; exact ⟨_, q1⟩
    · rw [List.mem_singleton.mp q]; exact ⟨_, q2⟩
  · rcases only n v e with q | q
    · rw [q]; exact .head _
    · rw [q]; exact .tail _ (.head _)
section
variable {P : Program} {w : World} {K : PySem.W.Frag} {mg : Str → Option Value} {base : Heap} {a : Adr}
theorem ok_law {f : Addr} {oc : Value} {od : Option Addr} {dV kV doc pm : Value} {an : Option Addr} {cdv ct : Value} {osl : Array (Option Value)} (lk : K.lookup f = some ⟨oc, od, .func (PySem.W.fnOf "law" "law" (defArgs s_law) (defBody s_law) (defScope s_law) dV kV doc pm an cdv ct), osl⟩) (hcd : PySem.W.codeIn K cdv "law" = true) (T : Txt K mg a)
    (h__law_name : HasFn P w K mg base 2 "_law_name" ["_law_cell"] (spName31) [])
    (h__law_cell_at : HasFn P w K mg base 1 "_law_cell_at" ["_law_script", "_law_k"] (spCell K) [])
    (h__law_beside : HasFn P w K mg base 1 "_law_beside" ["_law_name_here", "_law_cell"] (spBeside31) [])
    (h_Shares___init__ : HasMk P w K mg base a.c_Shares 1 ["self"] (spSInit a) [])
    (h__law_none_stands : HasFn P w K mg base 8 "_law_none_stands" ["_law_shares", "_law_name_here", "_law_many"] (spNone31 a) [])
    (h__law_rows : HasFn P w K mg base 2 "_law_rows" ["_law_shares", "_law_due"] (spRows31 a) [])
    (h__law_refusal : HasFn P w K mg base 7 "_law_refusal" ["_law_shares", "_law_way", "_law_name_here", "_law_many"] (spRef31 a) [])
    (h_Shares_use : HasMe P w K mg base a.c_Shares 6 "use" ["self", "name", "many"] (spSUse a) [])
    (h__law_fresh : HasFn P w K mg base 4 "_law_fresh" ["_law_shares", "_law_name_here", "_law_many"] (spFresh31 a) [])
    (h__law_code : HasFn P w K mg base 1 "_law_code" ["_law_refusal_here"] (spCode31 a) [])
    (h__law_no_name : HasFn P w K mg base 2 "_law_no_name" ["_law_name_here", "_law_cell"] (spNoName31) []) :
    FnOk P w K mg base (CXE P w) 9 f (PySem.W.fnOf "law" "law" (defArgs s_law) (defBody s_law) (defScope s_law) dV kV doc pm an cdv ct) ["_law_script"] (spLaw K) := by
  refine fn_of lk hcd sc_law (fun vs H Q E h => ?_) (fun A outer s H vs Q E hr h => ?_)
  · obtain ⟨sc, ss, rfl, _⟩ := h
    rfl
  obtain ⟨sc, ss, rfl, hS, hlen, k⟩ := h
  refine ⟨_, (@pss_cons _ _ _ _ _ (@ps_set _ _ 1 _ _ _ _ sc_law.nd rfl (by first | exact Or.inl rfl | exact Or.inr rfl) (pe_fn h__law_name (hr.mono (by decide)) (by rfl) pass_def (@pa_cn _ _ _ _ _ (pe_fn h__law_cell_at (hr.mono (by decide)) (by rfl) pass_def (@pa_cn _ _ _ _ _ (pv 0) (@pa_cn _ _ _ _ _ pe_int pa_nil rfl) rfl)) pa_nil rfl)) (by rfl) (by first | exact Or.inl rfl | exact Or.inr rfl))
      (@pss_cons _ _ _ _ _ (@ps_set _ _ 2 _ _ _ _ sc_law.nd rfl (by first | exact Or.inl rfl | exact Or.inr rfl) (pe_fn h__law_beside (hr.mono (by decide)) (by rfl) pass_def (@pa_cn _ _ _ _ _ (pv 1) (@pa_cn _ _ _ _ _ (pe_fn h__law_cell_at (hr.mono (by decide)) (by rfl) pass_def (@pa_cn _ _ _ _ _ (pv 0) (@pa_cn _ _ _ _ _ pe_int pa_nil rfl) rfl)) pa_nil rfl) rfl)) (by rfl) (by first | exact Or.inl rfl | exact Or.inr rfl))
      (@pss_cons _ _ _ _ _ (@ps_set _ _ 3 _ _ _ _ sc_law.nd rfl (by first | exact Or.inl rfl | exact Or.inr rfl) (pe_op op_add pe_int (pe_op op_mod (pe_fn h__law_cell_at (hr.mono (by decide)) (by rfl) pass_def (@pa_cn _ _ _ _ _ (pv 0) (@pa_cn _ _ _ _ _ pe_int pa_nil rfl) rfl)) pe_int)) (by rfl) (by first | exact Or.inl rfl | exact Or.inr rfl))
      (@pss_cons _ _ _ _ _ (@ps_set _ _ 4 _ _ _ _ sc_law.nd rfl (by first | exact Or.inl rfl | exact Or.inr rfl) (pe_op op_add pe_int (pe_op op_mod (pe_op op_add (pv 3) (pe_op op_mod (pe_fn h__law_cell_at (hr.mono (by decide)) (by rfl) pass_def (@pa_cn _ _ _ _ _ (pv 0) (@pa_cn _ _ _ _ _ pe_int pa_nil rfl) rfl)) pe_int)) pe_int)) (by rfl) (by first | exact Or.inl rfl | exact Or.inr rfl))
      (@pss_cons _ _ _ _ _ (@ps_set _ _ 5 _ _ _ _ sc_law.nd rfl (by first | exact Or.inl rfl | exact Or.inr rfl) (pe_op op_add pe_int (pe_op op_mod (pe_fn h__law_cell_at (hr.mono (by decide)) (by rfl) pass_def (@pa_cn _ _ _ _ _ (pv 0) (@pa_cn _ _ _ _ _ pe_int pa_nil rfl) rfl)) pe_int)) (by rfl) (by first | exact Or.inl rfl | exact Or.inr rfl))
      (@pss_cons _ _ _ _ _ (@ps_set _ _ 6 _ _ _ _ sc_law.nd rfl (by first | exact Or.inl rfl | exact Or.inr rfl) (pe_mk0 h_Shares___init__ (hr.mono (by decide)) (by rfl) T.m_Shares pass_def) (by rfl) (by first | exact Or.inl rfl | exact Or.inr rfl))
      (@pss_cons _ _ _ _ _ (ps_if (PW.pt (pw_or (pt_not (pt_val (pe_fn h__law_rows (hr.mono (by decide)) (by rfl) pass_def (@pa_cn _ _ _ _ _ (pv 6) (@pa_cn _ _ _ _ _ (@pe_lst _ _ _ _ pa_nil) pa_nil rfl) rfl)))) (pw_or1 (pt_not (pt_val (pe_fn h__law_none_stands (hr.mono (by decide)) (by rfl) pass_def (@pa_cn _ _ _ _ _ (pv 6) (@pa_cn _ _ _ _ _ (pv 1) (@pa_cn _ _ _ _ _ (pv 3) pa_nil rfl) rfl) rfl))))))) (@pss_one _ _ _ (@ps_ret _ _ _ _ pe_bl)) pss_nil)
      (@pss_cons _ _ _ _ _ (ps_if (PW.pt (pw_or (pt_cmpR op_notN (pe_fn h__law_refusal (hr.mono (by decide)) (by rfl) pass_def (@pa_cn _ _ _ _ _ (pv 6) (@pa_cn _ _ _ _ _ pe_int (@pa_cn _ _ _ _ _ (pv 1) (@pa_cn _ _ _ _ _ (pv 3) pa_nil rfl) rfl) rfl) rfl)) pe_non (nomark _)) (pw_or1 (pt_not (pt_val (pe_fn h__law_rows (hr.mono (by decide)) (by rfl) pass_def (@pa_cn _ _ _ _ _ (pv 6) (@pa_cn _ _ _ _ _ (@pe_lst _ _ _ _ pa_nil) pa_nil rfl) rfl))))))) (@pss_one _ _ _ (@ps_ret _ _ _ _ pe_bl)) pss_nil)
      (@pss_cons _ _ _ _ _ (ps_expr (pe_me (pv 6) T.cl_Shares h_Shares_use (hr.mono (by decide)) pass_def (@pa_cn _ _ _ _ _ (pv 1) (@pa_cn _ _ _ _ _ (pv 3) pa_nil rfl) rfl)))
      (@pss_cons _ _ _ _ _ (@ps_set _ _ 7 _ _ _ _ sc_law.nd rfl (by first | exact Or.inl rfl | exact Or.inr rfl) (@pe_lst _ _ _ _ (@pa_cn _ _ _ _ _ (@pe_tup _ _ _ _ _ (@pa_cn _ _ _ _ _ (pv 1) (@pa_cn _ _ _ _ _ (pv 3) (@pa_cn _ _ _ _ _ (pv 3) pa_nil rfl) rfl) rfl)) pa_nil rfl)) (by rfl) (by first | exact Or.inl rfl | exact Or.inr rfl))
      (@pss_cons _ _ _ _ _ (ps_if (PW.pt (pw_or (pt_not (pt_val (pe_fn h__law_rows (hr.mono (by decide)) (by rfl) pass_def (@pa_cn _ _ _ _ _ (pv 6) (@pa_cn _ _ _ _ _ (pv 7) pa_nil rfl) rfl)))) (pw_or1 (pt_not (pt_val (pe_fn h__law_fresh (hr.mono (by decide)) (by rfl) pass_def (@pa_cn _ _ _ _ _ (pv 6) (@pa_cn _ _ _ _ _ (pv 1) (@pa_cn _ _ _ _ _ (pv 3) pa_nil rfl) rfl) rfl))))))) (@pss_one _ _ _ (@ps_ret _ _ _ _ pe_bl)) pss_nil)
      (@pss_cons _ _ _ _ _ (ps_for own_def rfl (pi_list (@pe_lst _ _ _ _ (@pa_cn _ _ _ _ _ pe_int (@pa_cn _ _ _ _ _ pe_int pa_nil rfl) rfl))) (pg_name (i := 8) sc_law.nd rfl (by first | exact Or.inl rfl | exact Or.inr rfl))
      (@pss_one _ _ _ (ps_if (PW.pt (pw_or (pt_cmpR op_ne (pe_fn h__law_code (hr.mono (by decide)) (by rfl) pass_def (@pa_cn _ _ _ _ _ (pe_fn h__law_refusal (hr.mono (by decide)) (by rfl) pass_def (@pa_cn _ _ _ _ _ (pv 6) (@pa_cn _ _ _ _ _ (pv 8) (@pa_cn _ _ _ _ _ (pv 1) (@pa_cn _ _ _ _ _ (pv 4) pa_nil rfl) rfl) rfl) rfl)) pa_nil rfl)) pe_int (nomark _)) (pw_or1 (pt_not (pt_val (pe_fn h__law_none_stands (hr.mono (by decide)) (by rfl) pass_def (@pa_cn _ _ _ _ _ (pv 6) (@pa_cn _ _ _ _ _ (pv 2) (@pa_cn _ _ _ _ _ (pv 3) pa_nil rfl) rfl) rfl))))))) (@pss_one _ _ _ (@ps_ret _ _ _ _ pe_bl)) pss_nil)))
      (@pss_cons _ _ _ _ _ (ps_for own_def rfl (pi_list (pe_slice sl_list (pv 0) (po_some pe_int) (po_some pe_int))) (pg_name (i := 9) sc_law.nd rfl (by first | exact Or.inl rfl | exact Or.inr rfl))
      (@pss_cons _ _ _ _ _ (@ps_set _ _ 10 _ _ _ _ sc_law.nd rfl (by first | exact Or.inl rfl | exact Or.inr rfl) (pe_fn h__law_no_name (hr.mono (by decide)) (by rfl) pass_def (@pa_cn _ _ _ _ _ (pv 1) (@pa_cn _ _ _ _ _ (pv 9) pa_nil rfl) rfl)) (by rfl) (by first | exact Or.inl rfl | exact Or.inr rfl))
      (@pss_one _ _ _ (ps_if (PW.pt (pw_or (pt_cmpR op_ne (pe_fn h__law_code (hr.mono (by decide)) (by rfl) pass_def (@pa_cn _ _ _ _ _ (pe_fn h__law_refusal (hr.mono (by decide)) (by rfl) pass_def (@pa_cn _ _ _ _ _ (pv 6) (@pa_cn _ _ _ _ _ (pe_op op_mod (pv 9) pe_int) (@pa_cn _ _ _ _ _ (pv 10) (@pa_cn _ _ _ _ _ (pv 3) pa_nil rfl) rfl) rfl) rfl)) pa_nil rfl)) pe_int (nomark _)) (pw_or1 (pt_not (pt_val (pe_fn h__law_none_stands (hr.mono (by decide)) (by rfl) pass_def (@pa_cn _ _ _ _ _ (pv 6) (@pa_cn _ _ _ _ _ (pv 10) (@pa_cn _ _ _ _ _ (pv 3) pa_nil rfl) rfl) rfl))))))) (@pss_one _ _ _ (@ps_ret _ _ _ _ pe_bl)) pss_nil))))
      (@pss_cons _ _ _ _ _ (ps_if (PW.pt (pw_or (pt_not (pt_val (pe_fn h__law_rows (hr.mono (by decide)) (by rfl) pass_def (@pa_cn _ _ _ _ _ (pv 6) (@pa_cn _ _ _ _ _ (pv 7) pa_nil rfl) rfl)))) (pw_or1 (pt_cmpR op_notN (pe_fn h__law_refusal (hr.mono (by decide)) (by rfl) pass_def (@pa_cn _ _ _ _ _ (pv 6) (@pa_cn _ _ _ _ _ pe_int (@pa_cn _ _ _ _ _ (pv 1) (@pa_cn _ _ _ _ _ (pv 3) pa_nil rfl) rfl) rfl) rfl)) pe_non (nomark _))))) (@pss_one _ _ _ (@ps_ret _ _ _ _ pe_bl)) pss_nil)
      (@pss_cons _ _ _ _ _ (ps_expr (pe_me (pv 6) T.cl_Shares h_Shares_use (hr.mono (by decide)) pass_def (@pa_cn _ _ _ _ _ (pv 2) (@pa_cn _ _ _ _ _ (pv 5) pa_nil rfl) rfl)))
      (@pss_cons _ _ _ _ _ (ps_expr (pe_me (pv 6) T.cl_Shares h_Shares_use (hr.mono (by decide)) pass_def (@pa_cn _ _ _ _ _ (pv 1) (@pa_cn _ _ _ _ _ (pv 3) pa_nil rfl) rfl)))
      (@pss_cons _ _ _ _ _ (@ps_set _ _ 7 _ _ _ _ sc_law.nd rfl (by first | exact Or.inl rfl | exact Or.inr rfl) (pe_callB call_sorted2 (by rfl) T.b_sorted PyProof.Rows.Boot.«sorted» (@pa_cn _ _ _ _ _ (@pe_lst _ _ _ _ (@pa_cn _ _ _ _ _ (@pe_tup _ _ _ _ _ (@pa_cn _ _ _ _ _ (pv 1) (@pa_cn _ _ _ _ _ (pv 3) (@pa_cn _ _ _ _ _ (pe_op op_mul pe_int (pv 3)) pa_nil rfl) rfl) rfl)) (@pa_cn _ _ _ _ _ (@pe_tup _ _ _ _ _ (@pa_cn _ _ _ _ _ (pv 2) (@pa_cn _ _ _ _ _ (pv 5) (@pa_cn _ _ _ _ _ (pv 5) pa_nil rfl) rfl) rfl)) pa_nil rfl) rfl)) pa_nil rfl)) (by rfl) (by first | exact Or.inl rfl | exact Or.inr rfl))
      (@pss_cons _ _ _ _ _ (ps_if (PW.pt (pw_or (pt_not (pt_val (pe_fn h__law_rows (hr.mono (by decide)) (by rfl) pass_def (@pa_cn _ _ _ _ _ (pv 6) (@pa_cn _ _ _ _ _ (pv 7) pa_nil rfl) rfl)))) (pw_or (pt_not (pt_val (pe_fn h__law_fresh (hr.mono (by decide)) (by rfl) pass_def (@pa_cn _ _ _ _ _ (pv 6) (@pa_cn _ _ _ _ _ (pv 2) (@pa_cn _ _ _ _ _ (pv 5) pa_nil rfl) rfl) rfl)))) (pw_or1 (pt_not (pt_val (pe_fn h__law_fresh (hr.mono (by decide)) (by rfl) pass_def (@pa_cn _ _ _ _ _ (pv 6) (@pa_cn _ _ _ _ _ (pv 1) (@pa_cn _ _ _ _ _ (pv 3) pa_nil rfl) rfl) rfl)))))))) (@pss_one _ _ _ (@ps_ret _ _ _ _ pe_bl)) pss_nil)
      (@pss_one _ _ _ (@ps_ret _ _ _ _ (pe_and (pe_fn h__law_rows (hr.mono (by decide)) (by rfl) pass_def (@pa_cn _ _ _ _ _ (pv 6) (@pa_cn _ _ _ _ _ (pv 7) pa_nil rfl) rfl)) (pe_one (pe_fn h__law_none_stands (hr.mono (by decide)) (by rfl) pass_def (@pa_cn _ _ _ _ _ (pe_mk0 h_Shares___init__ (hr.mono (by decide)) (by rfl) T.m_Shares pass_def) (@pa_cn _ _ _ _ _ (pv 1) (@pa_cn _ _ _ _ _ (pv 3) pa_nil rfl) rfl) rfl)))))))))))))))))))))))), ?_⟩
  have t1 := T.cl_Shares
  walk_at "go"
  intro x H1 ox s1
  have S1 := s1.seq hS
  walk_at "go"
  intro y oy yx
  have nlx : x.length ≤ sizeLine := by have := ox.1.2; rw [sizeLine_eq]; omega
  have nly : y.length ≤ sizeLine := by have := oy.1.2; rw [sizeLine_eq]; omega
  walk_at "go"
  generalize ss.getD (2 : Int).toNat 0 = c2
  generalize ss.getD (3 : Int).toNat 0 = c3
  generalize ss.getD (4 : Int).toNat 0 = c4
  walk_at "go"
  show gName 5 (.int (1 + c4 % 64)) ((((List.set (L2.start n_law [.ref sc]) 1 (some (.str x))).set 2 (some (.str y))).set 3 (some (.int (1 + c2 % 64)))).set 4 (some (.int (1 + (1 + c2 % 64 + c3 % 63) % 64)))) H1 _
  have em : ∃ mm : Int, 1 + c2 % 64 = mm ∧ 1 ≤ mm ∧ mm ≤ 64 := ⟨_, rfl, by omega, by omega⟩
  obtain ⟨mm, e1, m1', m64⟩ := em
  rw [e1]
  have eu : ∃ uu : Int, 1 + (mm + c3 % 63) % 64 = uu ∧ 1 ≤ uu ∧ uu ≤ 64 ∧ uu ≠ mm := ⟨_, rfl, by omega, by omega, by omega⟩
  obtain ⟨uu, e2, u1, u64, um⟩ := eu
  rw [e2]
  have el : ∃ ll : Int, 1 + c4 % 64 = ll ∧ 1 ≤ ll ∧ ll ≤ 64 := ⟨_, rfl, by omega, by omega⟩
  obtain ⟨ll, e3, l1, l64⟩ := el
  rw [e3]
  clear e1 e2 e3
  refine fun p dp hp hdp ne => ⟨p, dp, rfl, upd_same, fun fp H2 S2 fr2 nw2 => ⟨rfl, ?_⟩⟩
  have s2 : Same H1 H2 := made_sameS hp hdp fr2
  have S12 := s2.seq S1
  have few0 : FewM (fun _ => none) := ⟨[], by decide, fun n v h => (nomatch h)⟩
  have few0' : Few63 (fun _ => none) := ⟨[], by decide, fun n v h => (nomatch h)⟩
  have nok0 : NamesOk (fun _ => none) := fun n v h => (nomatch h)
  have om : (fun _ => none : ShM) x = none := rfl
  have mm0 : 0 ≤ mm := by omega
  have nf2 : ∀ b ∈ fp, H1 b = none := fun b hb => by
    rcases nw2 b hb with q | q
    · rw [q]; exact hp
    · cases e : H1 b with
      | none => rfl
      | some u => rw [upd_ne (ne_of_none e hp), upd_ne (ne_of_none e hdp), e] at q; cases q
  walk_at "go"
  intro l0 hl0
  generalize hh : upd _ l0 _ = H3
  obtain ⟨s3, e3⟩ := newO hl0 hh
  clear hh
  have S3 := S2.same s3
  have D3 := rows0 e3
  walk_at "go"
  intro H4 s4
  have S4 := S3.same s4
  walk_at "go"
  intro H5 s5
  have S5 := S4.same s5
  have rf : Ref31 (fun _ => none) 1 x mm 3 := .inr (.inr (.inr ⟨rfl, rfl, ox, fun gs u h => nomatch h⟩))
  walk_at "go"
  intro v H6 vn ve s6
  have e6 := vn rfl
  subst e6
  have S6 := S5.same s6
  walk_at "go"
  intro l1' hl1'
  generalize hh : upd _ l1' _ = H7
  obtain ⟨s7, e7⟩ := newO hl1' hh
  clear hh
  have S7 := S6.same s7
  have D7 := rows0 e7
  walk_at "go"
  intro H8 s8
  have S8 := S7.same s8
  obtain ⟨dx8, d8, kvs8, ks8, ent8, S8', _⟩ := id S8
  have hp8 := S8'.ob
  walk_at "go"
  refine ⟨fun _ _ fp9 H9 S9 fr9 => ?_, fun z => absurd ox z, fun _ gs u h _ => (Option.some_ne_none _ (h.symm.trans om)).elim⟩
  rw [used_none om] at S9
  have S9 : ShAt a H9 p (m1 x mm) fp9 := S9
  have s28 := ((((s3.trans s4).trans s5).trans s6).trans s7).trans s8
  have s19 : Same H1 H9 := fun b u e => (fr9.out (s28 _ _ (s2 _ _ e)) (fun z => by rw [nf2 b z] at e; cases e)).1
  have S19 := s19.seq S1
  have nf9 : ∀ b ∈ fp9, H1 b = none := fun b hb => by
    rcases fr9.2 b hb with q | q
    · exact nf2 b q
    · cases e : H1 b with
      | none => rfl
      | some u => rw [s28 _ _ (s2 _ _ e)] at q; cases q
  have few1 : FewM (m1 x mm) := ⟨[x], by show 1 ≤ 100; decide, fun n v h => by rw [m1_only h]; exact .head _⟩
  have few1' : Few63 (m1 x mm) := ⟨[x], by show 1 < 64; decide, fun n v h => by rw [m1_only h]; exact .head _⟩
  have nok1 : NamesOk (m1 x mm) := fun n v h => by rw [m1_only h]; exact ox
  have mx : m1 x mm x = some (List.replicate mm.toNat (.fresh 3), mm) := m1_x
  have my : m1 x mm y = none := m1_n yx
  walk_at "go"
  intro t0 ht0
  generalize hh : upd _ t0 _ = H10
  obtain ⟨s10, e10⟩ := newO ht0 hh
  clear hh
  walk_at "go"
  intro due hdue
  generalize hh : upd _ due _ = H11
  obtain ⟨s11, e11⟩ := newO hdue hh
  clear hh
  have S11 := (S9.same s10).same s11
  have D11 : SRows H11 due [t0] [x] (m1 x mm) := rows1 e11 (s11 _ _ e10) mm0
  walk_at "go"
  intro H12 s12
  have S12' := S11.same s12
  walk_at "go"
  intro H13 s13
  have S13 := S12'.same s13
  walk_at "go"
  intro ws hws
  generalize hh : upd _ ws _ = H14
  obtain ⟨s14, e14⟩ := newO hws hh
  clear hh
  have S14 := S13.same s14
  have D14 := ((D11.same s12).same s13).same s14
  have sm14 : Same H1 H14 := ((((s19.trans s10).trans s11).trans s12).trans s13).trans s14
  walk_at "go"
  refine for_list (xs := [.int 1, .int 0]) (fun i σ H' => Bx (∃ v8 : Option V, σ = [some (.ref sc), some (.str x), some (.str y), some (.int mm), some (.int uu), some (.int ll), some (.ref p), some (.ref due), v8, none, none] ∧ Same H14 H')) ⟨_, rfl, .refl _⟩ (fun i σ H' _ z => ?_) ?_ ?_
  · obtain ⟨_, _, s⟩ := z
    exact SqL.of (s _ _ e14)
  · rintro i v σ Ha hi ⟨v8, rfl, sa⟩
    obtain ⟨z, rfl, hz⟩ : ∃ z : Int, v = .int z ∧ (z = 0 ∨ z = 1) := by
      match i, hi with
      | 0, hi => cases hi; exact ⟨_, rfl, .inr rfl⟩
      | 1, hi => cases hi; exact ⟨_, rfl, .inl rfl⟩
    have Sa := S14.same sa
    have rf1 : Ref31 (m1 x mm) z x uu 1 := .inr (.inr (.inl ⟨rfl, hz, ox, _, _, mx, by rw [rl mm0]; exact um.symm⟩))
    walk_at "go"
    intro v Hb v3 ve sb
    obtain ⟨e, rfl, he⟩ := ve (by decide)
    have ve2 : (1 : Nat) ≠ 3 → ∃ e', V.ref e = .ref e' ∧ Hb e' = some (exO e' (.ref (clsS a 1)) none) := fun _ => ⟨e, rfl, he⟩
    have vn2 : (1 : Nat) = 3 → V.ref e = .non := fun z => absurd z (by decide)
    walk_at "go"
    intro Hc sc'
    have Sc := (Sa.same sb).same sc'
    walk_at "go"
    intro Hd sd
    walk_at "go"
    exact ⟨_, rfl, ((sa.trans sb).trans sc').trans sd⟩
  · rintro σ Ha ⟨v8, rfl, sa⟩
    have Sa := S14.same sa
    have SSa := (sm14.trans sa).seq S1
    obtain ⟨ms, ems, lms⟩ := cut_ints ss (some 5) (some 40)
    walk_at "go"
    intro sl hsl
    rw [ems]
    generalize hh : upd _ sl _ = Hb
    obtain ⟨sb, eb⟩ := newO hsl hh
    clear hh
    have Sb := Sa.same sb
    have Db := (D14.same sa).same sb
    walk_at "go"
    refine for_list (xs := ms.map V.int) (fun i σ H' => Bx (∃ v9 v10 : Option V, σ = [some (.ref sc), some (.str x), some (.str y), some (.int mm), some (.int uu), some (.int ll), some (.ref p), some (.ref due), v8, v9, v10] ∧ Same Hb H')) ⟨_, _, rfl, .refl _⟩ (fun i σ H' _ z => ?_) ?_ ?_
    · obtain ⟨_, _, _, s⟩ := z
      exact SqL.of (s _ _ eb)
    · rintro i v σ Hc hi ⟨v9, v10, rfl, sc'⟩
      obtain ⟨c, rfl, _⟩ := mem_ints hi
      have Sc := Sb.same sc'
      walk_at "go"
      intro wr Hd nw wl sd
      have Sd := Sc.same sd
      have rf1 : Ref31 (m1 x mm) (c % 2) wr mm 0 := .inr (.inl ⟨rfl, by omega, nw⟩)
      have wn : m1 x mm wr = none := m1_n fun z => nw (by rw [z]; exact ox)
      have nlw : wr.length ≤ sizeLine := by rw [sizeLine_eq]; omega
      walk_at "go"
      intro v He v3 ve se
      obtain ⟨e, rfl, he⟩ := ve (by decide)
      have ve2 : (0 : Nat) ≠ 3 → ∃ e', V.ref e = .ref e' ∧ He e' = some (exO e' (.ref (clsS a 0)) none) := fun _ => ⟨e, rfl, he⟩
      have vn2 : (0 : Nat) = 3 → V.ref e = .non := fun z => absurd z (by decide)
      walk_at "go"
      intro Hf sf
      have Sf := (Sd.same se).same sf
      walk_at "go"
      intro Hg sg
      walk_at "go"
      exact ⟨_, _, rfl, (((sc'.trans sd).trans se).trans sf).trans sg⟩
    · rintro σ Hc ⟨v9, v10, rfl, sc'⟩
      have Sc := Sb.same sc'
      have Dc := Db.same sc'
      walk_at "go"
      intro Hd sd
      have Sd := Sc.same sd
      have rf3 : Ref31 (m1 x mm) 1 x mm 3 := .inr (.inr (.inr ⟨rfl, rfl, ox, fun gs u h => by rw [mx] at h; cases h; exact rl mm0⟩))
      walk_at "go"
      intro v He vn ve se
      have ev := vn rfl
      subst ev
      have Se := Sd.same se
      obtain ⟨dxe, de, kvse, kse, ente, Se', _⟩ := id Se
      have hpe := Se'.ob
      have ll0 : 0 ≤ ll := by omega
      walk_at "go"
      refine ⟨fun _ _ fpf Hf Sf frf => ?_, fun z => absurd oy z, fun _ gs u h _ => (Option.some_ne_none _ (h.symm.trans my)).elim⟩
      rw [used_none my] at Sf
      obtain ⟨dxf, df, kvsf, ksf, entf, Sf', _⟩ := id Sf
      have hpf := Sf'.ob
      have m2x : setM (m1 x mm) y (some (List.replicate ll.toNat (.fresh 3), ll)) x = some (List.replicate mm.toNat (.fresh 3), mm) := by unfold setM; rw [if_neg (fun z => yx z.symm)]; exact mx
      have few2 : FewM (setM (m1 x mm) y (some (List.replicate ll.toNat (.fresh 3), ll))) := ⟨[x, y], by show 2 ≤ 100; decide, fun n v h => by
        unfold setM at h
        by_cases q : n = y
        · rw [q]; exact .tail _ (.head _)
        · rw [if_neg q] at h; rw [m1_only h]; exact .head _⟩
      walk_at "go"
      refine ⟨fun _ _ fpg Hg Sg frg => ?_, fun z => absurd ox z, fun _ gs u h ne => absurd (by rw [m2x] at h; cases h; exact rl mm0) ne⟩
      rw [used_some m2x] at Sg
      obtain ⟨m3, em3⟩ : ∃ m3, setM (setM (m1 x mm) y (some (List.replicate ll.toNat (.fresh 3), ll))) x (some (List.replicate mm.toNat (.fresh 3), mm + mm)) = m3 := ⟨_, rfl⟩
      rw [em3] at Sg
      have m3x : m3 x = some (List.replicate mm.toNat (.fresh 3), mm + mm) := by rw [← em3]; exact setM_self
      have m3y : m3 y = some (List.replicate ll.toNat (.fresh 3), ll) := by rw [← em3]; show setM (setM _ y _) x _ y = _; unfold setM; rw [if_neg yx, if_pos rfl]
      have m3n : ∀ n v, m3 n = some v → n = x ∨ n = y := fun n v h => by
        rw [← em3] at h
        unfold setM at h
        by_cases q : n = x
        · exact .inl q
        · rw [if_neg q] at h
          by_cases q' : n = y
          · exact .inr q'
          · rw [if_neg q'] at h; exact .inl (m1_only h)
      have few3 : Few63 m3 := ⟨[x, y], by show 2 < 64; decide, fun n v h => by
        rcases m3n n v h with q | q
        · rw [q]; exact .head _
        · rw [q]; exact .tail _ (.head _)⟩
      have nok3 : NamesOk m3 := fun n v h => by
        rcases m3n n v h with q | q
        · rw [q]; exact ox
        · rw [q]; exact oy
      have xy : x ≠ y := fun z => yx z.symm
      walk_at "go"
      intro ta hta
      generalize hh : upd _ ta _ = H20
      obtain ⟨s20, e20⟩ := newO hta hh
      clear hh
      walk_at "go"
      intro tb htb
      generalize hh : upd _ tb _ = H21
      obtain ⟨s21, e21⟩ := newO htb hh
      clear hh
      walk_at "go"
      intro lq hlq
      generalize hh : upd _ lq _ = H22
      obtain ⟨s22, e22⟩ := newO hlq hh
      clear hh
      have ea := s22 _ _ (s21 _ _ e20)
      have eb' := s22 _ _ e21
      walk_at "go"
      intro dq hdq
      generalize hh : upd _ dq _ = H23
      obtain ⟨s23, e23⟩ := newO hdq hh
      clear hh
      have dbl : 2 * mm = mm + mm := by omega
      have ea : H22 ta = some (.tup [.str x, .int mm, .int (2 * mm)]) := ea
      rw [dbl] at ea
      obtain ⟨us, ns, D23⟩ : ∃ us ns, SRows H23 dq us ns m3 := by
        by_cases lt : y.cps.toList < x.cps.toList
        · rw [if_pos lt] at e23
          exact ⟨_, _, rows2 e23 (by rw [rl ll0]; exact s23 _ _ eb') (by rw [rl mm0]; exact s23 _ _ ea) m3y m3x (fun n v h => (m3n n v h).symm) yx fun w => List.lt_asymm lt w⟩
        · rw [if_neg lt] at e23
          exact ⟨_, _, rows2 e23 (by rw [rl mm0]; exact s23 _ _ ea) (by rw [rl ll0]; exact s23 _ _ eb') m3x m3y m3n xy lt⟩
      clear e23
      have S23 := (((Sg.same s20).same s21).same s22).same s23
      walk_at "go"
      intro H24 s24
      have S24 := S23.same s24
      walk_at "go"
      intro H25 s25
      have S25 := S24.same s25
      walk_at "go"
      intro H26 s26
      have S26 := S25.same s26
      have D26 := ((D23.same s24).same s25).same s26
      walk_at "go"
      intro H27 s27
      walk_at "go"
      refine fun p' dp' hp' hdp' ne' => ⟨p', dp', rfl, upd_same, fun fp' H28 S28 _ _ => ⟨rfl, ?_⟩⟩
      walk_at "go"
      exact fun H29 _ => k H29
end
end K31

set_option maxHeartbeats 4000000
namespace K31
open PySem L2
theorem all_mk {l : PySem.W.OpenLaw} {w : World} {K : PySem.W.Frag} {h : Heap} {mg : Str → Option Value} {fa c_LeafError c_NoStretch c_NoNumber c_NoRights c_NoName c_NoShare c_Unlike c_Leaf c_Fresh c_Share c_Shares f1 f2 f3 f4 f5 f6 f7 f8 f9 f10 f11 f12 f13 f14 f15 f16 f17 f18 f19 f20 f21 f22 f23 f24 f25 f26 f27 f28 : Addr} (X : K.In h) (G : h.Ns mainGlobals mg) (hfa : mg "law" = some (.ref fa))
    {od1 an1 : Option Addr} {sl1 : Array (Option Value)} {oc1 kV1 dc1 pm1 cd1 ct1 : Value}
    {od2 an2 : Option Addr} {sl2 : Array (Option Value)} {oc2 kV2 dc2 pm2 cd2 ct2 : Value}
    {od3 an3 : Option Addr} {sl3 : Array (Option Value)} {oc3 kV3 dc3 pm3 cd3 ct3 : Value}
    {od4 an4 : Option Addr} {sl4 : Array (Option Value)} {oc4 kV4 dc4 pm4 cd4 ct4 : Value}
    {od5 an5 : Option Addr} {sl5 : Array (Option Value)} {oc5 kV5 dc5 pm5 cd5 ct5 : Value}
    {od6 an6 : Option Addr} {sl6 : Array (Option Value)} {oc6 kV6 dc6 pm6 cd6 ct6 : Value}
    {od7 an7 : Option Addr} {sl7 : Array (Option Value)} {oc7 kV7 dc7 pm7 cd7 ct7 : Value}
    {od8 an8 : Option Addr} {sl8 : Array (Option Value)} {oc8 kV8 dc8 pm8 cd8 ct8 : Value}
    {od9 an9 : Option Addr} {sl9 : Array (Option Value)} {oc9 kV9 dc9 pm9 cd9 ct9 : Value}
    {od10 an10 : Option Addr} {sl10 : Array (Option Value)} {oc10 kV10 dc10 pm10 cd10 ct10 : Value}
    {od11 an11 : Option Addr} {sl11 : Array (Option Value)} {oc11 kV11 dc11 pm11 cd11 ct11 : Value}
    {od12 an12 : Option Addr} {sl12 : Array (Option Value)} {oc12 kV12 dc12 pm12 cd12 ct12 : Value}
    {od13 an13 : Option Addr} {sl13 : Array (Option Value)} {oc13 kV13 dc13 pm13 cd13 ct13 : Value}
    {od14 an14 : Option Addr} {sl14 : Array (Option Value)} {oc14 kV14 dc14 pm14 cd14 ct14 : Value}
    {od15 an15 : Option Addr} {sl15 : Array (Option Value)} {oc15 kV15 dc15 pm15 cd15 ct15 : Value}
    {od16 an16 : Option Addr} {sl16 : Array (Option Value)} {oc16 kV16 dc16 pm16 cd16 ct16 : Value}
    {od17 an17 : Option Addr} {sl17 : Array (Option Value)} {oc17 kV17 dc17 pm17 cd17 ct17 : Value}
    {od18 an18 : Option Addr} {sl18 : Array (Option Value)} {oc18 kV18 dc18 pm18 cd18 ct18 : Value}
    {od19 an19 : Option Addr} {sl19 : Array (Option Value)} {oc19 kV19 dc19 pm19 cd19 ct19 : Value}
    {od20 an20 : Option Addr} {sl20 : Array (Option Value)} {oc20 kV20 dc20 pm20 cd20 ct20 : Value}
    {od21 an21 : Option Addr} {sl21 : Array (Option Value)} {oc21 kV21 dc21 pm21 cd21 ct21 : Value}
    {od22 an22 : Option Addr} {sl22 : Array (Option Value)} {oc22 kV22 dc22 pm22 cd22 ct22 : Value}
    {od23 an23 : Option Addr} {sl23 : Array (Option Value)} {oc23 kV23 dc23 pm23 cd23 ct23 : Value}
    {od24 an24 : Option Addr} {sl24 : Array (Option Value)} {oc24 kV24 dc24 pm24 cd24 ct24 : Value}
    {od25 an25 : Option Addr} {sl25 : Array (Option Value)} {oc25 kV25 dc25 pm25 cd25 ct25 : Value}
    {od26 an26 : Option Addr} {sl26 : Array (Option Value)} {oc26 kV26 dc26 pm26 cd26 ct26 : Value}
    {od27 an27 : Option Addr} {sl27 : Array (Option Value)} {oc27 kV27 dc27 pm27 cd27 ct27 : Value}
    {od28 an28 : Option Addr} {sl28 : Array (Option Value)} {oc28 kV28 dc28 pm28 cd28 ct28 : Value}
    {tkc_MOST_LETTERS tkc_BOTH_RIGHTS : Tok}
    (a_c_LeafError : PySem.W.nsIn K mainGlobals "LeafError" = some (some (.ref c_LeafError)))
    (a_c_NoStretch : PySem.W.nsIn K mainGlobals "NoStretch" = some (some (.ref c_NoStretch)))
    (a_c_NoNumber : PySem.W.nsIn K mainGlobals "NoNumber" = some (some (.ref c_NoNumber)))
    (a_c_NoRights : PySem.W.nsIn K mainGlobals "NoRights" = some (some (.ref c_NoRights)))
    (a_c_NoName : PySem.W.nsIn K mainGlobals "NoName" = some (some (.ref c_NoName)))
    (a_c_NoShare : PySem.W.nsIn K mainGlobals "NoShare" = some (some (.ref c_NoShare)))
    (a_c_Unlike : PySem.W.nsIn K mainGlobals "Unlike" = some (some (.ref c_Unlike)))
    (a_c_Leaf : PySem.W.nsIn K mainGlobals "Leaf" = some (some (.ref c_Leaf)))
    (a_c_Fresh : PySem.W.nsIn K mainGlobals "Fresh" = some (some (.ref c_Fresh)))
    (a_c_Share : PySem.W.nsIn K mainGlobals "Share" = some (some (.ref c_Share)))
    (a_c_Shares : PySem.W.nsIn K mainGlobals "Shares" = some (some (.ref c_Shares)))
    (fi_Fresh___init__ : PySem.W.findIn K (.ref c_Fresh) "__init__" = some (some (.ref f2)))
    (fi_Shares_fits : PySem.W.findIn K (.ref c_Shares) "fits" = some (some (.ref f7)))
    (fi_Share___init__ : PySem.W.findIn K (.ref c_Share) "__init__" = some (some (.ref f5)))
    (fi_Shares_share : PySem.W.findIn K (.ref c_Shares) "share" = some (some (.ref f8)))
    (fi_Shares_share_with : PySem.W.findIn K (.ref c_Shares) "share_with" = some (some (.ref f10)))
    (fi_Shares_use : PySem.W.findIn K (.ref c_Shares) "use" = some (some (.ref f9)))
    (fi_Shares_more : PySem.W.findIn K (.ref c_Shares) "more" = some (some (.ref f11)))
    (fi_Shares_less : PySem.W.findIn K (.ref c_Shares) "less" = some (some (.ref f12)))
    (fi_Shares_leaf : PySem.W.findIn K (.ref c_Shares) "leaf" = some (some (.ref f13)))
    (fi_Shares_put : PySem.W.findIn K (.ref c_Shares) "put" = some (some (.ref f14)))
    (fi_Shares_parts : PySem.W.findIn K (.ref c_Shares) "parts" = some (some (.ref f15)))
    (fi_Shares_rows : PySem.W.findIn K (.ref c_Shares) "rows" = some (some (.ref f16)))
    (fi_Fresh_row : PySem.W.findIn K (.ref c_Fresh) "row" = some (some (.ref f3)))
    (fi_Shares___init__ : PySem.W.findIn K (.ref c_Shares) "__init__" = some (some (.ref f6)))
    (a1 : PySem.W.nsIn K mainGlobals "check_rights" = some (some (.ref f1)))
    (l1 : K.lookup f1 = some ⟨oc1, od1, .func (PySem.W.fnOf "check_rights" "check_rights" (defArgs s_check_rights) (defBody s_check_rights) (defScope s_check_rights) .none kV1 dc1 pm1 an1 cd1 ct1), sl1⟩)
    (c1 : PySem.W.codeIn K cd1 "check_rights" = true)
    (k1 : PySem.W.keepIn K (.ref f1) = true)
    (l2 : K.lookup f2 = some ⟨oc2, od2, .func (PySem.W.fnOf "__init__" "Leaf.__init__" (defArgs s_Leaf___init__) (defBody s_Leaf___init__) (defScope s_Leaf___init__) .none kV2 dc2 pm2 an2 cd2 ct2), sl2⟩)
    (c2 : PySem.W.codeIn K cd2 "Leaf.__init__" = true)
    (k2 : PySem.W.keepIn K (.ref f2) = true)
    (i2 : PySem.W.isFn K (.ref f2) = true)
    (l3 : K.lookup f3 = some ⟨oc3, od3, .func (PySem.W.fnOf "row" "Fresh.row" (defArgs s_Fresh_row) (defBody s_Fresh_row) (defScope s_Fresh_row) .none kV3 dc3 pm3 an3 cd3 ct3), sl3⟩)
    (c3 : PySem.W.codeIn K cd3 "Fresh.row" = true)
    (k3 : PySem.W.keepIn K (.ref f3) = true)
    (i3 : PySem.W.isFn K (.ref f3) = true)
    (a4 : PySem.W.nsIn K mainGlobals "check_name" = some (some (.ref f4)))
    (l4 : K.lookup f4 = some ⟨oc4, od4, .func (PySem.W.fnOf "check_name" "check_name" (defArgs s_check_name) (defBody s_check_name) (defScope s_check_name) .none kV4 dc4 pm4 an4 cd4 ct4), sl4⟩)
    (c4 : PySem.W.codeIn K cd4 "check_name" = true)
    (k4 : PySem.W.keepIn K (.ref f4) = true)
    (l5 : K.lookup f5 = some ⟨oc5, od5, .func (PySem.W.fnOf "__init__" "Share.__init__" (defArgs s_Share___init__) (defBody s_Share___init__) (defScope s_Share___init__) .none kV5 dc5 pm5 an5 cd5 ct5), sl5⟩)
    (c5 : PySem.W.codeIn K cd5 "Share.__init__" = true)
    (k5 : PySem.W.keepIn K (.ref f5) = true)
    (i5 : PySem.W.isFn K (.ref f5) = true)
    (l6 : K.lookup f6 = some ⟨oc6, od6, .func (PySem.W.fnOf "__init__" "Shares.__init__" (defArgs s_Shares___init__) (defBody s_Shares___init__) (defScope s_Shares___init__) .none kV6 dc6 pm6 an6 cd6 ct6), sl6⟩)
    (c6 : PySem.W.codeIn K cd6 "Shares.__init__" = true)
    (k6 : PySem.W.keepIn K (.ref f6) = true)
    (i6 : PySem.W.isFn K (.ref f6) = true)
    (l7 : K.lookup f7 = some ⟨oc7, od7, .func (PySem.W.fnOf "fits" "Shares.fits" (defArgs s_Shares_fits) (defBody s_Shares_fits) (defScope s_Shares_fits) .none kV7 dc7 pm7 an7 cd7 ct7), sl7⟩)
    (c7 : PySem.W.codeIn K cd7 "Shares.fits" = true)
    (k7 : PySem.W.keepIn K (.ref f7) = true)
    (i7 : PySem.W.isFn K (.ref f7) = true)
    (l8 : K.lookup f8 = some ⟨oc8, od8, .func (PySem.W.fnOf "share" "Shares.share" (defArgs s_Shares_share) (defBody s_Shares_share) (defScope s_Shares_share) .none kV8 dc8 pm8 an8 cd8 ct8), sl8⟩)
    (c8 : PySem.W.codeIn K cd8 "Shares.share" = true)
    (k8 : PySem.W.keepIn K (.ref f8) = true)
    (i8 : PySem.W.isFn K (.ref f8) = true)
    (l9 : K.lookup f9 = some ⟨oc9, od9, .func (PySem.W.fnOf "use" "Shares.use" (defArgs s_Shares_use) (defBody s_Shares_use) (defScope s_Shares_use) .none kV9 dc9 pm9 an9 cd9 ct9), sl9⟩)
    (c9 : PySem.W.codeIn K cd9 "Shares.use" = true)
    (k9 : PySem.W.keepIn K (.ref f9) = true)
    (i9 : PySem.W.isFn K (.ref f9) = true)
    (l10 : K.lookup f10 = some ⟨oc10, od10, .func (PySem.W.fnOf "share_with" "Shares.share_with" (defArgs s_Shares_share_with) (defBody s_Shares_share_with) (defScope s_Shares_share_with) .none kV10 dc10 pm10 an10 cd10 ct10), sl10⟩)
    (c10 : PySem.W.codeIn K cd10 "Shares.share_with" = true)
    (k10 : PySem.W.keepIn K (.ref f10) = true)
    (i10 : PySem.W.isFn K (.ref f10) = true)
    (l11 : K.lookup f11 = some ⟨oc11, od11, .func (PySem.W.fnOf "more" "Shares.more" (defArgs s_Shares_more) (defBody s_Shares_more) (defScope s_Shares_more) .none kV11 dc11 pm11 an11 cd11 ct11), sl11⟩)
    (c11 : PySem.W.codeIn K cd11 "Shares.more" = true)
    (k11 : PySem.W.keepIn K (.ref f11) = true)
    (i11 : PySem.W.isFn K (.ref f11) = true)
    (l12 : K.lookup f12 = some ⟨oc12, od12, .func (PySem.W.fnOf "less" "Shares.less" (defArgs s_Shares_less) (defBody s_Shares_less) (defScope s_Shares_less) .none kV12 dc12 pm12 an12 cd12 ct12), sl12⟩)
    (c12 : PySem.W.codeIn K cd12 "Shares.less" = true)
    (k12 : PySem.W.keepIn K (.ref f12) = true)
    (i12 : PySem.W.isFn K (.ref f12) = true)
    (l13 : K.lookup f13 = some ⟨oc13, od13, .func (PySem.W.fnOf "leaf" "Shares.leaf" (defArgs s_Shares_leaf) (defBody s_Shares_leaf) (defScope s_Shares_leaf) .none kV13 dc13 pm13 an13 cd13 ct13), sl13⟩)
    (c13 : PySem.W.codeIn K cd13 "Shares.leaf" = true)
    (k13 : PySem.W.keepIn K (.ref f13) = true)
    (i13 : PySem.W.isFn K (.ref f13) = true)
    (l14 : K.lookup f14 = some ⟨oc14, od14, .func (PySem.W.fnOf "put" "Shares.put" (defArgs s_Shares_put) (defBody s_Shares_put) (defScope s_Shares_put) .none kV14 dc14 pm14 an14 cd14 ct14), sl14⟩)
    (c14 : PySem.W.codeIn K cd14 "Shares.put" = true)
    (k14 : PySem.W.keepIn K (.ref f14) = true)
    (i14 : PySem.W.isFn K (.ref f14) = true)
    (l15 : K.lookup f15 = some ⟨oc15, od15, .func (PySem.W.fnOf "parts" "Shares.parts" (defArgs s_Shares_parts) (defBody s_Shares_parts) (defScope s_Shares_parts) .none kV15 dc15 pm15 an15 cd15 ct15), sl15⟩)
    (c15 : PySem.W.codeIn K cd15 "Shares.parts" = true)
    (k15 : PySem.W.keepIn K (.ref f15) = true)
    (i15 : PySem.W.isFn K (.ref f15) = true)
    (l16 : K.lookup f16 = some ⟨oc16, od16, .func (PySem.W.fnOf "rows" "Shares.rows" (defArgs s_Shares_rows) (defBody s_Shares_rows) (defScope s_Shares_rows) .none kV16 dc16 pm16 an16 cd16 ct16), sl16⟩)
    (c16 : PySem.W.codeIn K cd16 "Shares.rows" = true)
    (k16 : PySem.W.keepIn K (.ref f16) = true)
    (i16 : PySem.W.isFn K (.ref f16) = true)
    (a17 : PySem.W.nsIn K mainGlobals "_law_cell_at" = some (some (.ref f17)))
    (l17 : K.lookup f17 = some ⟨oc17, od17, .func (PySem.W.fnOf "_law_cell_at" "_law_cell_at" (defArgs s__law_cell_at) (defBody s__law_cell_at) (defScope s__law_cell_at) .none kV17 dc17 pm17 an17 cd17 ct17), sl17⟩)
    (c17 : PySem.W.codeIn K cd17 "_law_cell_at" = true)
    (k17 : PySem.W.keepIn K (.ref f17) = true)
    (a18 : PySem.W.nsIn K mainGlobals "_law_whole" = some (some (.ref f18)))
    (l18 : K.lookup f18 = some ⟨oc18, od18, .func (PySem.W.fnOf "_law_whole" "_law_whole" (defArgs s__law_whole) (defBody s__law_whole) (defScope s__law_whole) .none kV18 dc18 pm18 an18 cd18 ct18), sl18⟩)
    (c18 : PySem.W.codeIn K cd18 "_law_whole" = true)
    (k18 : PySem.W.keepIn K (.ref f18) = true)
    (a19 : PySem.W.nsIn K mainGlobals "_law_drawn" = some (some (.ref f19)))
    (l19 : K.lookup f19 = some ⟨oc19, od19, .func (PySem.W.fnOf "_law_drawn" "_law_drawn" (defArgs s__law_drawn) (defBody s__law_drawn) (defScope s__law_drawn) .none kV19 dc19 pm19 an19 cd19 ct19), sl19⟩)
    (c19 : PySem.W.codeIn K cd19 "_law_drawn" = true)
    (k19 : PySem.W.keepIn K (.ref f19) = true)
    (a20 : PySem.W.nsIn K mainGlobals "_law_name" = some (some (.ref f20)))
    (l20 : K.lookup f20 = some ⟨oc20, od20, .func (PySem.W.fnOf "_law_name" "_law_name" (defArgs s__law_name) (defBody s__law_name) (defScope s__law_name) .none kV20 dc20 pm20 an20 cd20 ct20), sl20⟩)
    (c20 : PySem.W.codeIn K cd20 "_law_name" = true)
    (k20 : PySem.W.keepIn K (.ref f20) = true)
    (a21 : PySem.W.nsIn K mainGlobals "_law_beside" = some (some (.ref f21)))
    (l21 : K.lookup f21 = some ⟨oc21, od21, .func (PySem.W.fnOf "_law_beside" "_law_beside" (defArgs s__law_beside) (defBody s__law_beside) (defScope s__law_beside) .none kV21 dc21 pm21 an21 cd21 ct21), sl21⟩)
    (c21 : PySem.W.codeIn K cd21 "_law_beside" = true)
    (k21 : PySem.W.keepIn K (.ref f21) = true)
    (a22 : PySem.W.nsIn K mainGlobals "_law_no_name" = some (some (.ref f22)))
    (l22 : K.lookup f22 = some ⟨oc22, od22, .func (PySem.W.fnOf "_law_no_name" "_law_no_name" (defArgs s__law_no_name) (defBody s__law_no_name) (defScope s__law_no_name) .none kV22 dc22 pm22 an22 cd22 ct22), sl22⟩)
    (c22 : PySem.W.codeIn K cd22 "_law_no_name" = true)
    (k22 : PySem.W.keepIn K (.ref f22) = true)
    (a23 : PySem.W.nsIn K mainGlobals "_law_refusal" = some (some (.ref f23)))
    (l23 : K.lookup f23 = some ⟨oc23, od23, .func (PySem.W.fnOf "_law_refusal" "_law_refusal" (defArgs s__law_refusal) (defBody s__law_refusal) (defScope s__law_refusal) .none kV23 dc23 pm23 an23 cd23 ct23), sl23⟩)
    (c23 : PySem.W.codeIn K cd23 "_law_refusal" = true)
    (k23 : PySem.W.keepIn K (.ref f23) = true)
    (a24 : PySem.W.nsIn K mainGlobals "_law_code" = some (some (.ref f24)))
    (l24 : K.lookup f24 = some ⟨oc24, od24, .func (PySem.W.fnOf "_law_code" "_law_code" (defArgs s__law_code) (defBody s__law_code) (defScope s__law_code) .none kV24 dc24 pm24 an24 cd24 ct24), sl24⟩)
    (c24 : PySem.W.codeIn K cd24 "_law_code" = true)
    (k24 : PySem.W.keepIn K (.ref f24) = true)
    (a25 : PySem.W.nsIn K mainGlobals "_law_rows" = some (some (.ref f25)))
    (l25 : K.lookup f25 = some ⟨oc25, od25, .func (PySem.W.fnOf "_law_rows" "_law_rows" (defArgs s__law_rows) (defBody s__law_rows) (defScope s__law_rows) .none kV25 dc25 pm25 an25 cd25 ct25), sl25⟩)
    (c25 : PySem.W.codeIn K cd25 "_law_rows" = true)
    (k25 : PySem.W.keepIn K (.ref f25) = true)
    (a26 : PySem.W.nsIn K mainGlobals "_law_none_stands" = some (some (.ref f26)))
    (l26 : K.lookup f26 = some ⟨oc26, od26, .func (PySem.W.fnOf "_law_none_stands" "_law_none_stands" (defArgs s__law_none_stands) (defBody s__law_none_stands) (defScope s__law_none_stands) .none kV26 dc26 pm26 an26 cd26 ct26), sl26⟩)
    (c26 : PySem.W.codeIn K cd26 "_law_none_stands" = true)
    (k26 : PySem.W.keepIn K (.ref f26) = true)
    (a27 : PySem.W.nsIn K mainGlobals "_law_fresh" = some (some (.ref f27)))
    (l27 : K.lookup f27 = some ⟨oc27, od27, .func (PySem.W.fnOf "_law_fresh" "_law_fresh" (defArgs s__law_fresh) (defBody s__law_fresh) (defScope s__law_fresh) .none kV27 dc27 pm27 an27 cd27 ct27), sl27⟩)
    (c27 : PySem.W.codeIn K cd27 "_law_fresh" = true)
    (k27 : PySem.W.keepIn K (.ref f27) = true)
    (a28 : PySem.W.nsIn K mainGlobals "law" = some (some (.ref f28)))
    (l28 : K.lookup f28 = some ⟨oc28, od28, .func (PySem.W.fnOf "law" "law" (defArgs s_law) (defBody s_law) (defScope s_law) .none kV28 dc28 pm28 an28 cd28 ct28), sl28⟩)
    (c28 : PySem.W.codeIn K cd28 "law" = true)
    (k28 : PySem.W.keepIn K (.ref f28) = true)
    (pg_Leaf : PySem.W.plainGet K c_Leaf Str.empty = true)
    (hd_Leaf : PySem.W.hasDictIn K c_Leaf = true)
    (po_Leaf : PySem.W.plainOver K c_Leaf = true)
    (sa_Leaf : PySem.W.findIn K (.ref c_Leaf) "__setattr__" = some (some (.builtin "object.__setattr__")))
    (pg_Fresh : PySem.W.plainGet K c_Fresh Str.empty = true)
    (hd_Fresh : PySem.W.hasDictIn K c_Fresh = true)
    (po_Fresh : PySem.W.plainOver K c_Fresh = true)
    (sa_Fresh : PySem.W.findIn K (.ref c_Fresh) "__setattr__" = some (some (.builtin "object.__setattr__")))
    (pg_Share : PySem.W.plainGet K c_Share Str.empty = true)
    (hd_Share : PySem.W.hasDictIn K c_Share = true)
    (po_Share : PySem.W.plainOver K c_Share = true)
    (sa_Share : PySem.W.findIn K (.ref c_Share) "__setattr__" = some (some (.builtin "object.__setattr__")))
    (pg_Shares : PySem.W.plainGet K c_Shares Str.empty = true)
    (hd_Shares : PySem.W.hasDictIn K c_Shares = true)
    (po_Shares : PySem.W.plainOver K c_Shares = true)
    (sa_Shares : PySem.W.findIn K (.ref c_Shares) "__setattr__" = some (some (.builtin "object.__setattr__")))
    (mk_Fresh : PySem.W.makesIn K c_Fresh = true)
    (kc_Fresh : PySem.W.keepIn K (.ref c_Fresh) = true)
    (mk_Share : PySem.W.makesIn K c_Share = true)
    (kc_Share : PySem.W.keepIn K (.ref c_Share) = true)
    (mk_Shares : PySem.W.makesIn K c_Shares = true)
    (kc_Shares : PySem.W.keepIn K (.ref c_Shares) = true)
    (n_Fresh_rights : PySem.W.findIn K (.ref c_Fresh) "rights" = some none)
    (n_Leaf_rights : PySem.W.findIn K (.ref c_Leaf) "rights" = some none)
    (n_Share_leaves : PySem.W.findIn K (.ref c_Share) "leaves" = some none)
    (n_Share_uses : PySem.W.findIn K (.ref c_Share) "uses" = some none)
    (n_Shares_kept : PySem.W.findIn K (.ref c_Shares) "kept" = some none)
    (x_LeafError : PySem.W.excIn K c_LeafError bmV "ValueError.__new__" = true)
    (x_NoRights : PySem.W.excIn K c_NoRights bmV "ValueError.__new__" = true)
    (x_NoName : PySem.W.excIn K c_NoName bmV "ValueError.__new__" = true)
    (x_NoShare : PySem.W.excIn K c_NoShare bmV "ValueError.__new__" = true)
    (x_Unlike : PySem.W.excIn K c_Unlike bmV "ValueError.__new__" = true)
    (g_MOST_LETTERS : PySem.W.nsIn K mainGlobals "MOST_LETTERS" = some (some (.int 8 tkc_MOST_LETTERS)))
    (g_BOTH_RIGHTS : PySem.W.nsIn K mainGlobals "BOTH_RIGHTS" = some (some (.int 3 tkc_BOTH_RIGHTS)))
    (b_ValueError : PySem.W.nsIn K mainGlobals "ValueError" = some none)
    (b_bool : PySem.W.nsIn K mainGlobals "bool" = some none)
    (b_int : PySem.W.nsIn K mainGlobals "int" = some none)
    (b_isinstance : PySem.W.nsIn K mainGlobals "isinstance" = some none)
    (b_len : PySem.W.nsIn K mainGlobals "len" = some none)
    (b_list : PySem.W.nsIn K mainGlobals "list" = some none)
    (b_range : PySem.W.nsIn K mainGlobals "range" = some none)
    (b_sorted : PySem.W.nsIn K mainGlobals "sorted" = some none)
    (b_str : PySem.W.nsIn K mainGlobals "str" = some none)
    (b_tuple : PySem.W.nsIn K mainGlobals "tuple" = some none)
    (ga_NoName : PySem.W.findIn K (.ref c_NoName) "__getattribute__" = some (some (.builtin "BaseException.__getattribute__")))
    (gn_NoName : PySem.W.findIn K (.ref c_NoName) "__getattr__" = some none)
    (be_NoName : PySem.W.mroIn K c_NoName (.type "BaseException") = some true)
    (hx_NoName : PySem.W.hasDictIn K c_NoName = true)
    (ha_NoName : PySem.W.findIn K (.ref c_NoName) "__class__" = some (some (.builtin "object.__class__")))
    (hm_NoName : PySem.W.mroIn K c_NoName (.type "object") = some true)
    (ga_Unlike : PySem.W.findIn K (.ref c_Unlike) "__getattribute__" = some (some (.builtin "BaseException.__getattribute__")))
    (gn_Unlike : PySem.W.findIn K (.ref c_Unlike) "__getattr__" = some none)
    (be_Unlike : PySem.W.mroIn K c_Unlike (.type "BaseException") = some true)
    (hx_Unlike : PySem.W.hasDictIn K c_Unlike = true)
    (ha_Unlike : PySem.W.findIn K (.ref c_Unlike) "__class__" = some (some (.builtin "object.__class__")))
    (hm_Unlike : PySem.W.mroIn K c_Unlike (.type "object") = some true)
    (ga_NoShare : PySem.W.findIn K (.ref c_NoShare) "__getattribute__" = some (some (.builtin "BaseException.__getattribute__")))
    (gn_NoShare : PySem.W.findIn K (.ref c_NoShare) "__getattr__" = some none)
    (be_NoShare : PySem.W.mroIn K c_NoShare (.type "BaseException") = some true)
    (hx_NoShare : PySem.W.hasDictIn K c_NoShare = true)
    (ha_NoShare : PySem.W.findIn K (.ref c_NoShare) "__class__" = some (some (.builtin "object.__class__")))
    (hm_NoShare : PySem.W.mroIn K c_NoShare (.type "object") = some true)
    (hn : PySem.W.specialIn K (.builtin "object.__class__") "__get__" = some (some (.builtin "getset_descriptor.__get__")))
    (htk : PySem.W.takesIn K (.builtin "object.__class__") = some true)
    (ia_Fresh : PySem.W.findIn K (.ref c_Fresh) "__class__" = some (some (.builtin "object.__class__")))
    (im_Fresh : PySem.W.mroIn K c_Fresh (.type "object") = some true)
    (k_Fresh_Fresh : PySem.W.kitOne K (.ref c_Fresh) (.ref c_Fresh) = some true)
    (s_NoName : PySem.W.mroIn K c_NoName (.ref c_LeafError) = some true)
    (s_Unlike : PySem.W.mroIn K c_Unlike (.ref c_LeafError) = some true)
    (s_NoShare : PySem.W.mroIn K c_NoShare (.ref c_LeafError) = some true)
    (e_NoName_NoName : PySem.W.kitOne K (.ref c_NoName) (.ref c_NoName) = some true)
    (e_NoName_Unlike : PySem.W.kitOne K (.ref c_NoName) (.ref c_Unlike) = some false)
    (e_NoName_NoShare : PySem.W.kitOne K (.ref c_NoName) (.ref c_NoShare) = some false)
    (e_Unlike_NoName : PySem.W.kitOne K (.ref c_Unlike) (.ref c_NoName) = some false)
    (e_Unlike_Unlike : PySem.W.kitOne K (.ref c_Unlike) (.ref c_Unlike) = some true)
    (e_Unlike_NoShare : PySem.W.kitOne K (.ref c_Unlike) (.ref c_NoShare) = some false)
    (e_NoShare_NoName : PySem.W.kitOne K (.ref c_NoShare) (.ref c_NoName) = some false)
    (e_NoShare_Unlike : PySem.W.kitOne K (.ref c_NoShare) (.ref c_Unlike) = some false)
    (e_NoShare_NoShare : PySem.W.kitOne K (.ref c_NoShare) (.ref c_NoShare) = some true)
    (v_NoName : PySem.W.kitOne K (.ref c_NoName) (.type "ValueError") = some true)
    (v_Unlike : PySem.W.kitOne K (.ref c_Unlike) (.type "ValueError") = some true)
    (v_NoShare : PySem.W.kitOne K (.ref c_NoShare) (.type "ValueError") = some true)
    (n_NoName : PySem.W.kitAny K (.ref c_NoName) [.ref c_NoNumber, .ref c_NoStretch] = some false)
    (n_Unlike : PySem.W.kitAny K (.ref c_Unlike) [.ref c_NoNumber, .ref c_NoStretch] = some false)
    (n_NoShare : PySem.W.kitAny K (.ref c_NoShare) [.ref c_NoNumber, .ref c_NoStretch] = some false) :
    ∃ fd : FuncData, (∀ (s : Shared) (v : Value), BindsTo s fd ⟨[v], []⟩ [("_law_script", v)]) ∧ ∀ base : Heap, K.In base → base.Ns mainGlobals mg → FnOk l.prog w K mg base (CXE l.prog w) 9 fa fd ["_law_script"] (spLaw K) := by
  have e := hfa.symm.trans (PySem.W.mg_of X G a28)
  cases e
  have T : Txt K mg ⟨c_LeafError, c_NoStretch, c_NoNumber, c_NoRights, c_NoName, c_NoShare, c_Unlike, c_Leaf, c_Fresh, c_Share, c_Shares⟩ := ⟨⟨pg_Leaf, hd_Leaf, po_Leaf, sa_Leaf⟩, ⟨pg_Fresh, hd_Fresh, po_Fresh, sa_Fresh⟩, ⟨pg_Share, hd_Share, po_Share, sa_Share⟩, ⟨pg_Shares, hd_Shares, po_Shares, sa_Shares⟩, n_Fresh_rights, n_Leaf_rights, n_Share_leaves, n_Share_uses, n_Shares_kept, x_LeafError, PySem.W.mg_of X G a_c_LeafError, PySem.W.mg_of X G a_c_NoStretch, PySem.W.mg_of X G a_c_NoNumber, x_NoRights, PySem.W.mg_of X G a_c_NoRights, x_NoName, PySem.W.mg_of X G a_c_NoName, x_NoShare, PySem.W.mg_of X G a_c_NoShare, x_Unlike, PySem.W.mg_of X G a_c_Unlike, PySem.W.mg_of X G a_c_Leaf, PySem.W.mg_of X G a_c_Fresh, PySem.W.mg_of X G a_c_Share, PySem.W.mg_of X G a_c_Shares, ⟨_, PySem.W.mg_of X G g_MOST_LETTERS⟩, ⟨_, PySem.W.mg_of X G g_BOTH_RIGHTS⟩, PySem.W.mg_none_of X G b_ValueError, PySem.W.mg_none_of X G b_bool, PySem.W.mg_none_of X G b_int, PySem.W.mg_none_of X G b_isinstance, PySem.W.mg_none_of X G b_len, PySem.W.mg_none_of X G b_list, PySem.W.mg_none_of X G b_range, PySem.W.mg_none_of X G b_sorted, PySem.W.mg_none_of X G b_str, PySem.W.mg_none_of X G b_tuple, ⟨ga_NoName, gn_NoName, be_NoName, hx_NoName, ha_NoName, hm_NoName⟩, ⟨ga_Unlike, gn_Unlike, be_Unlike, hx_Unlike, ha_Unlike, hm_Unlike⟩, ⟨ga_NoShare, gn_NoShare, be_NoShare, hx_NoShare, ha_NoShare, hm_NoShare⟩, ⟨hn, htk⟩, fun e => .of (.ins e ⟨pg_Fresh, hd_Fresh, po_Fresh, sa_Fresh⟩ ia_Fresh hn htk im_Fresh), k_Fresh_Fresh, s_NoName, s_Unlike, s_NoShare, e_NoName_NoName, e_NoName_Unlike, e_NoName_NoShare, e_Unlike_NoName, e_Unlike_Unlike, e_Unlike_NoShare, e_NoShare_NoName, e_NoShare_Unlike, e_NoShare_NoShare, v_NoName, v_Unlike, v_NoShare, n_NoName, n_Unlike, n_NoShare⟩
  refine ⟨PySem.W.fnOf "law" "law" (defArgs s_law) (defBody s_law) (defScope s_law) .none kV28 dc28 pm28 an28 cd28 ct28, fun s v => .of_eq rfl, fun base _ _ => ?_⟩
  have h__law_drawn := ok__law_drawn (P := l.prog) (w := w) (base := base) (dvs := []) ⟨f19, _, _, _, _, _, _, _, _, _, _, [], l19, c19, k19, PySem.W.mg_of X G a19, .all (fun us hl => match us, hl with | [_, _, _, _], _ => rfl), .nil⟩ T 
  have h__law_name := ok__law_name (P := l.prog) (w := w) (base := base) (dvs := []) ⟨f20, _, _, _, _, _, _, _, _, _, _, [], l20, c20, k20, PySem.W.mg_of X G a20, .all (fun us hl => match us, hl with | [_], _ => rfl), .nil⟩ T h__law_drawn
  have h__law_cell_at := ok__law_cell_at (P := l.prog) (w := w) (base := base) (dvs := []) ⟨f17, _, _, _, _, _, _, _, _, _, _, [], l17, c17, k17, PySem.W.mg_of X G a17, .all (fun us hl => match us, hl with | [_, _], _ => rfl), .nil⟩ T 
  have h__law_beside := ok__law_beside (P := l.prog) (w := w) (base := base) (dvs := []) ⟨f21, _, _, _, _, _, _, _, _, _, _, [], l21, c21, k21, PySem.W.mg_of X G a21, .all (fun us hl => match us, hl with | [_, _], _ => rfl), .nil⟩ T 
  have h_Shares___init__ := ok_Shares___init__ (P := l.prog) (w := w) (base := base) (dvs := []) ⟨f6, _, _, _, _, _, _, _, _, _, _, [], l6, c6, ⟨mk_Shares, fi_Shares___init__, i6, kc_Shares⟩, .all (fun us hl => match us, hl with | [_], _ => rfl), .nil⟩ T 
  have h__law_code := ok__law_code (P := l.prog) (w := w) (base := base) (dvs := []) ⟨f24, _, _, _, _, _, _, _, _, _, _, [], l24, c24, k24, PySem.W.mg_of X G a24, .all (fun us hl => match us, hl with | [_], _ => rfl), .nil⟩ T 
  have h_check_name := ok_check_name (P := l.prog) (w := w) (base := base) (dvs := []) ⟨f4, _, _, _, _, _, _, _, _, _, _, [], l4, c4, k4, PySem.W.mg_of X G a4, .all (fun us hl => match us, hl with | [_], _ => rfl), .nil⟩ T 
  have h_Shares_fits := ok_Shares_fits (P := l.prog) (w := w) (base := base) (dvs := []) ⟨f7, _, _, _, _, _, _, _, _, _, _, [], l7, c7, ⟨fi_Shares_fits, i7, k7⟩, .all (fun us hl => match us, hl with | [_, _, _], _ => rfl), .nil⟩ T h_check_name
  have h_check_rights := ok_check_rights (P := l.prog) (w := w) (base := base) (dvs := []) ⟨f1, _, _, _, _, _, _, _, _, _, _, [], l1, c1, k1, PySem.W.mg_of X G a1, .all (fun us hl => match us, hl with | [_], _ => rfl), .nil⟩ T 
  have h_Fresh___init__ := hasMk (dvs := []) (ds := []) (fk_Leaf___init__ (P := l.prog) (w := w) (base := base) l2 c2 T h_check_rights) ⟨mk_Fresh, fi_Fresh___init__, i2, kc_Fresh⟩ (.all (fun us hl => match us, hl with | [_, _], _ => rfl)) .nil
  have h_Share___init__ := ok_Share___init__ (P := l.prog) (w := w) (base := base) (dvs := []) ⟨f5, _, _, _, _, _, _, _, _, _, _, [], l5, c5, ⟨mk_Share, fi_Share___init__, i5, kc_Share⟩, .all (fun us hl => match us, hl with | [_, _], _ => rfl), .nil⟩ T h_Fresh___init__
  have h_Shares_share := ok_Shares_share (P := l.prog) (w := w) (base := base) (dvs := []) ⟨f8, _, _, _, _, _, _, _, _, _, _, [], l8, c8, ⟨fi_Shares_share, i8, k8⟩, .all (fun us hl => match us, hl with | [_, _], _ => rfl), .nil⟩ T 
  have h_Shares_use := ok_Shares_use (P := l.prog) (w := w) (base := base) (dvs := []) ⟨f9, _, _, _, _, _, _, _, _, _, _, [], l9, c9, ⟨fi_Shares_use, i9, k9⟩, .all (fun us hl => match us, hl with | [_, _, _], _ => rfl), .nil⟩ T h_Shares_fits h_Share___init__ h_Shares_share
  have h_Shares_more := ok_Shares_more (P := l.prog) (w := w) (base := base) (dvs := []) ⟨f11, _, _, _, _, _, _, _, _, _, _, [], l11, c11, ⟨fi_Shares_more, i11, k11⟩, .all (fun us hl => match us, hl with | [_, _], _ => rfl), .nil⟩ T h_Shares_share
  have h_Shares_less := ok_Shares_less (P := l.prog) (w := w) (base := base) (dvs := []) ⟨f12, _, _, _, _, _, _, _, _, _, _, [], l12, c12, ⟨fi_Shares_less, i12, k12⟩, .all (fun us hl => match us, hl with | [_, _], _ => rfl), .nil⟩ T h_Shares_share
  have h_Shares_share_with := ok_Shares_share_with (P := l.prog) (w := w) (base := base) (dvs := []) ⟨f10, _, _, _, _, _, _, _, _, _, _, [], l10, c10, ⟨fi_Shares_share_with, i10, k10⟩, .all (fun us hl => match us, hl with | [_, _, _], _ => rfl), .nil⟩ T h_Shares_share
  have h_Shares_leaf := ok_Shares_leaf (P := l.prog) (w := w) (base := base) (dvs := []) ⟨f13, _, _, _, _, _, _, _, _, _, _, [], l13, c13, ⟨fi_Shares_leaf, i13, k13⟩, .all (fun us hl => match us, hl with | [_, _, _], _ => rfl), .nil⟩ T h_Shares_share_with
  have h_Shares_put := ok_Shares_put (P := l.prog) (w := w) (base := base) (dvs := []) ⟨f14, _, _, _, _, _, _, _, _, _, _, [], l14, c14, ⟨fi_Shares_put, i14, k14⟩, .all (fun us hl => match us, hl with | [_, _, _, _], _ => rfl), .nil⟩ T h_Shares_share_with
  have h_Shares_parts := ok_Shares_parts (P := l.prog) (w := w) (base := base) (dvs := []) ⟨f15, _, _, _, _, _, _, _, _, _, _, [], l15, c15, ⟨fi_Shares_parts, i15, k15⟩, .all (fun us hl => match us, hl with | [_, _], _ => rfl), .nil⟩ T h_Shares_share
  have h__law_refusal := ok__law_refusal (P := l.prog) (w := w) (base := base) (dvs := []) ⟨f23, _, _, _, _, _, _, _, _, _, _, [], l23, c23, k23, PySem.W.mg_of X G a23, .all (fun us hl => match us, hl with | [_, _, _, _], _ => rfl), .nil⟩ T h_Shares_use h_Shares_fits h_Shares_more h_Shares_less h_Shares_leaf h_Shares_put h_Fresh___init__ h_Shares_parts
  have h__law_none_stands := ok__law_none_stands (P := l.prog) (w := w) (base := base) (dvs := []) ⟨f26, _, _, _, _, _, _, _, _, _, _, [], l26, c26, k26, PySem.W.mg_of X G a26, .all (fun us hl => match us, hl with | [_, _, _], _ => rfl), .nil⟩ T h__law_code h__law_refusal
  have h_Shares_rows := ok_Shares_rows (P := l.prog) (w := w) (base := base) (dvs := []) ⟨f16, _, _, _, _, _, _, _, _, _, _, [], l16, c16, ⟨fi_Shares_rows, i16, k16⟩, .all (fun us hl => match us, hl with | [_], _ => rfl), .nil⟩ T 
  have h__law_whole := ok__law_whole (P := l.prog) (w := w) (base := base) (dvs := []) ⟨f18, _, _, _, _, _, _, _, _, _, _, [], l18, c18, k18, PySem.W.mg_of X G a18, .all (fun us hl => match us, hl with | [_], _ => rfl), .nil⟩ T 
  have h__law_rows := ok__law_rows (P := l.prog) (w := w) (base := base) (dvs := []) ⟨f25, _, _, _, _, _, _, _, _, _, _, [], l25, c25, k25, PySem.W.mg_of X G a25, .all (fun us hl => match us, hl with | [_, _], _ => rfl), .nil⟩ T h_Shares_rows h__law_whole
  have h_Fresh_row := ok_Fresh_row (P := l.prog) (w := w) (base := base) (dvs := []) ⟨f3, _, _, _, _, _, _, _, _, _, _, [], l3, c3, ⟨fi_Fresh_row, i3, k3⟩, .all (fun us hl => match us, hl with | [_], _ => rfl), .nil⟩ T 
  have h__law_fresh := ok__law_fresh (P := l.prog) (w := w) (base := base) (dvs := []) ⟨f27, _, _, _, _, _, _, _, _, _, _, [], l27, c27, k27, PySem.W.mg_of X G a27, .all (fun us hl => match us, hl with | [_, _, _], _ => rfl), .nil⟩ T h_Shares_parts h_Fresh_row h_Shares_leaf
  have h__law_no_name := ok__law_no_name (P := l.prog) (w := w) (base := base) (dvs := []) ⟨f22, _, _, _, _, _, _, _, _, _, _, [], l22, c22, k22, PySem.W.mg_of X G a22, .all (fun us hl => match us, hl with | [_, _], _ => rfl), .nil⟩ T h__law_drawn
  exact ok_law l28 c28 T h__law_name h__law_cell_at h__law_beside h_Shares___init__ h__law_none_stands h__law_rows h__law_refusal h_Shares_use h__law_fresh h__law_code h__law_no_name
theorem walk {l : PySem.W.OpenLaw} {q : Program} {loose : List Str} {XP : (Str → Option Value) → Heap → Prop} {YP : World → Heap → Prop} {d : DefRec} {K : Params → PySem.W.Frag} (hn : l.most = some 63) (hdf : d.params.defaults = [])
    (hY : ∀ (w : World) (h : Heap), YP w h → (K w.params).In h)
    (F : ∀ (w : World) (mg : Str → Option Value) (fa : Addr) (h : Heap), (K w.params).In h → h.Ns mainGlobals mg → mg d.name = some (.ref fa) →
      ∃ fd : FuncData, (∀ (s : Shared) (u : Value), BindsTo s fd ⟨[u], []⟩ [("_law_script", u)]) ∧ ∀ base : Heap, (K w.params).In base → base.Ns mainGlobals mg → FnOk l.prog w (K w.params) mg base (CXE l.prog w) 9 fa fd ["_law_script"] (spLaw (K w.params))) :
    PySem.W.WalkO q loose XP YP l.row.toRowW d [] (fun f vs => PySem.call f vs) :=
  L2.walk_of (n := 63) (k := 9) (x := "_law_script") (CX := fun w => CXE l.prog w) (sp := fun w => spLaw (K w.params)) hn (by decide) hdf ⟨rfl, by decide, by decide⟩ hY F (fun _ _ a ns hl _ hS => ⟨a, ns, rfl, hS, hl, fun _ => rfl⟩) fun _ _ _ _ _ z => by
    obtain ⟨_, _, _, _, _, _, _, _, _, _, q⟩ := z
    exact q
end K31

set_option maxHeartbeats 4000000
open PySem PySem.W PyProof.Rows
theorem PySem.W.Fast.tw1103922581415486206 : True := trivial
theorem PySem.W.Fast.tw11112052304865281086 : True := trivial
theorem PySem.W.Fast.tw3953194052038580768 : True := trivial
theorem PySem.W.Fast.tw15675013213907166548 : True := trivial
theorem PySem.W.Fast.tw16787410150741174002 : True := trivial
theorem PySem.W.Fast.tw16113208739415115459 : True := trivial
theorem PySem.W.Fast.tw2008550029627461036 : True := trivial
theorem PySem.W.Fast.tw1279534105871632395 : True := trivial
theorem PySem.W.Fast.tw1393494642287224807 : True := trivial
theorem PySem.W.Fast.tw15711996608392235882 : True := trivial
theorem PySem.W.Fast.tw911161349590591836 : True := trivial
theorem PySem.W.Fast.tw17726875721646663315 : True := trivial
theorem PySem.W.Fast.tw8087948137516996942 : True := trivial
theorem PySem.W.Fast.tw4384489650076754871 : True := trivial
theorem PySem.W.Fast.tw6578529558888302372 : True := trivial
theorem PySem.W.Fast.tw17153250638747629375 : True := trivial
set_option maxHeartbeats 0 in
theorem PySem.Challenge.cw_leafframe_k31_share_made_holds : PySem.Challenge.rw_leafframe_k31_share_made.Holds := by
  w_on; o_law; k_head; (case hw => w_witness2)
  k_fill
  refine K31.walk (l := PySem.Challenge.rw_leafframe_k31_share_made) rfl rfl (fun w h Y => PySem.W.kIn_of Y) ?F
  case F =>
    intro w mg fa h KX G hmg
    refine' K31.all_mk KX G hmg ?a_c_LeafError ?a_c_NoStretch ?a_c_NoNumber ?a_c_NoRights ?a_c_NoName ?a_c_NoShare ?a_c_Unlike ?a_c_Leaf ?a_c_Fresh ?a_c_Share ?a_c_Shares ?fi_Fresh___init__ ?fi_Shares_fits ?fi_Share___init__ ?fi_Shares_share ?fi_Shares_share_with ?fi_Shares_use ?fi_Shares_more ?fi_Shares_less ?fi_Shares_leaf ?fi_Shares_put ?fi_Shares_parts ?fi_Shares_rows ?fi_Fresh_row ?fi_Shares___init__ ?a1 ?l1 ?c1 ?k1 ?l2 ?c2 ?k2 ?i2 ?l3 ?c3 ?k3 ?i3 ?a4 ?l4 ?c4 ?k4 ?l5 ?c5 ?k5 ?i5 ?l6 ?c6 ?k6 ?i6 ?l7 ?c7 ?k7 ?i7 ?l8 ?c8 ?k8 ?i8 ?l9 ?c9 ?k9 ?i9 ?l10 ?c10 ?k10 ?i10 ?l11 ?c11 ?k11 ?i11 ?l12 ?c12 ?k12 ?i12 ?l13 ?c13 ?k13 ?i13 ?l14 ?c14 ?k14 ?i14 ?l15 ?c15 ?k15 ?i15 ?l16 ?c16 ?k16 ?i16 ?a17 ?l17 ?c17 ?k17 ?a18 ?l18 ?c18 ?k18 ?a19 ?l19 ?c19 ?k19 ?a20 ?l20 ?c20 ?k20 ?a21 ?l21 ?c21 ?k21 ?a22 ?l22 ?c22 ?k22 ?a23 ?l23 ?c23 ?k23 ?a24 ?l24 ?c24 ?k24 ?a25 ?l25 ?c25 ?k25 ?a26 ?l26 ?c26 ?k26 ?a27 ?l27 ?c27 ?k27 ?a28 ?l28 ?c28 ?k28 ?pg_Leaf ?hd_Leaf ?po_Leaf ?sa_Leaf ?pg_Fresh ?hd_Fresh ?po_Fresh ?sa_Fresh ?pg_Share ?hd_Share ?po_Share ?sa_Share ?pg_Shares ?hd_Shares ?po_Shares ?sa_Shares ?mk_Fresh ?kc_Fresh ?mk_Share ?kc_Share ?mk_Shares ?kc_Shares ?n_Fresh_rights ?n_Leaf_rights ?n_Share_leaves ?n_Share_uses ?n_Shares_kept ?x_LeafError ?x_NoRights ?x_NoName ?x_NoShare ?x_Unlike ?g_MOST_LETTERS ?g_BOTH_RIGHTS ?b_ValueError ?b_bool ?b_int ?b_isinstance ?b_len ?b_list ?b_range ?b_sorted ?b_str ?b_tuple ?ga_NoName ?gn_NoName ?be_NoName ?hx_NoName ?ha_NoName ?hm_NoName ?ga_Unlike ?gn_Unlike ?be_Unlike ?hx_Unlike ?ha_Unlike ?hm_Unlike ?ga_NoShare ?gn_NoShare ?be_NoShare ?hx_NoShare ?ha_NoShare ?hm_NoShare ?hn ?htk ?ia_Fresh ?im_Fresh ?k_Fresh_Fresh ?s_NoName ?s_Unlike ?s_NoShare ?e_NoName_NoName ?e_NoName_Unlike ?e_NoName_NoShare ?e_Unlike_NoName ?e_Unlike_Unlike ?e_Unlike_NoShare ?e_NoShare_NoName ?e_NoShare_Unlike ?e_NoShare_NoShare ?v_NoName ?v_Unlike ?v_NoShare ?n_NoName ?n_Unlike ?n_NoShare
    (case a_c_LeafError => k_is)
    (case a_c_NoStretch => k_is)
    (case a_c_NoNumber => k_is)
    (case a_c_NoRights => k_is)
    (case a_c_NoName => k_is)
    (case a_c_NoShare => k_is)
    (case a_c_Unlike => k_is)
    (case a_c_Leaf => k_is)
    (case a_c_Fresh => k_is)
    (case a_c_Share => k_is)
    (case a_c_Shares => k_is)
    (case fi_Fresh___init__ => k_is)
    (case fi_Shares_fits => k_is)
    (case fi_Share___init__ => k_is)
    (case fi_Shares_share => k_is)
    (case fi_Shares_share_with => k_is)
    (case fi_Shares_use => k_is)
    (case fi_Shares_more => k_is)
    (case fi_Shares_less => k_is)
    (case fi_Shares_leaf => k_is)
    (case fi_Shares_put => k_is)
    (case fi_Shares_parts => k_is)
    (case fi_Shares_rows => k_is)
    (case fi_Fresh_row => k_is)
    (case fi_Shares___init__ => k_is)
    (case a1 => k_is)
    (case l1 => k_is)
    (case c1 => k_is)
    (case k1 => k_is)
    (case l2 => k_is)
    (case c2 => k_is)
    (case k2 => k_is)
    (case i2 => k_is)
    (case l3 => k_is)
    (case c3 => k_is)
    (case k3 => k_is)
    (case i3 => k_is)
    (case a4 => k_is)
    (case l4 => k_is)
    (case c4 => k_is)
    (case k4 => k_is)
    (case l5 => k_is)
    (case c5 => k_is)
    (case k5 => k_is)
    (case i5 => k_is)
    (case l6 => k_is)
    (case c6 => k_is)
    (case k6 => k_is)
    (case i6 => k_is)
    (case l7 => k_is)
    (case c7 => k_is)
    (case k7 => k_is)
    (case i7 => k_is)
    (case l8 => k_is)
    (case c8 => k_is)
    (case k8 => k_is)
    (case i8 => k_is)
    (case l9 => k_is)
    (case c9 => k_is)
    (case k9 => k_is)
    (case i9 => k_is)
    (case l10 => k_is)
    (case c10 => k_is)
    (case k10 => k_is)
    (case i10 => k_is)
    (case l11 => k_is)
    (case c11 => k_is)
    (case k11 => k_is)
    (case i11 => k_is)
    (case l12 => k_is)
    (case c12 => k_is)
    (case k12 => k_is)
    (case i12 => k_is)
    (case l13 => k_is)
    (case c13 => k_is)
    (case k13 => k_is)
    (case i13 => k_is)
    (case l14 => k_is)
    (case c14 => k_is)
    (case k14 => k_is)
    (case i14 => k_is)
    (case l15 => k_is)
    (case c15 => k_is)
    (case k15 => k_is)
    (case i15 => k_is)
    (case l16 => k_is)
    (case c16 => k_is)
    (case k16 => k_is)
    (case i16 => k_is)
    (case a17 => k_is)
    (case l17 => k_is)
    (case c17 => k_is)
    (case k17 => k_is)
    (case a18 => k_is)
    (case l18 => k_is)
    (case c18 => k_is)
    (case k18 => k_is)
    (case a19 => k_is)
    (case l19 => k_is)
    (case c19 => k_is)
    (case k19 => k_is)
    (case a20 => k_is)
    (case l20 => k_is)
    (case c20 => k_is)
    (case k20 => k_is)
    (case a21 => k_is)
    (case l21 => k_is)
    (case c21 => k_is)
    (case k21 => k_is)
    (case a22 => k_is)
    (case l22 => k_is)
    (case c22 => k_is)
    (case k22 => k_is)
    (case a23 => k_is)
    (case l23 => k_is)
    (case c23 => k_is)
    (case k23 => k_is)
    (case a24 => k_is)
    (case l24 => k_is)
    (case c24 => k_is)
    (case k24 => k_is)
    (case a25 => k_is)
    (case l25 => k_is)
    (case c25 => k_is)
    (case k25 => k_is)
    (case a26 => k_is)
    (case l26 => k_is)
    (case c26 => k_is)
    (case k26 => k_is)
    (case a27 => k_is)
    (case l27 => k_is)
    (case c27 => k_is)
    (case k27 => k_is)
    (case a28 => k_is)
    (case l28 => k_is)
    (case c28 => k_is)
    (case k28 => k_is)
    (case pg_Leaf => k_is)
    (case hd_Leaf => k_is)
    (case po_Leaf => k_is)
    (case sa_Leaf => k_is)
    (case pg_Fresh => k_is)
    (case hd_Fresh => k_is)
    (case po_Fresh => k_is)
    (case sa_Fresh => k_is)
    (case pg_Share => k_is)
    (case hd_Share => k_is)
    (case po_Share => k_is)
    (case sa_Share => k_is)
    (case pg_Shares => k_is)
    (case hd_Shares => k_is)
    (case po_Shares => k_is)
    (case sa_Shares => k_is)
    (case mk_Fresh => k_is)
    (case kc_Fresh => k_is)
    (case mk_Share => k_is)
    (case kc_Share => k_is)
    (case mk_Shares => k_is)
    (case kc_Shares => k_is)
    (case n_Fresh_rights => k_is)
    (case n_Leaf_rights => k_is)
    (case n_Share_leaves => k_is)
    (case n_Share_uses => k_is)
    (case n_Shares_kept => k_is)
    (case x_LeafError => k_exc)
    (case x_NoRights => k_exc)
    (case x_NoName => k_exc)
    (case x_NoShare => k_exc)
    (case x_Unlike => k_exc)
    (case g_MOST_LETTERS => k_is)
    (case g_BOTH_RIGHTS => k_is)
    (case b_ValueError => k_is)
    (case b_bool => k_is)
    (case b_int => k_is)
    (case b_isinstance => k_is)
    (case b_len => k_is)
    (case b_list => k_is)
    (case b_range => k_is)
    (case b_sorted => k_is)
    (case b_str => k_is)
    (case b_tuple => k_is)
    (case ga_NoName => k_is)
    (case gn_NoName => k_is)
    (case be_NoName => k_is)
    (case hx_NoName => k_is)
    (case ha_NoName => k_is)
    (case hm_NoName => k_is)
    (case ga_Unlike => k_is)
    (case gn_Unlike => k_is)
    (case be_Unlike => k_is)
    (case hx_Unlike => k_is)
    (case ha_Unlike => k_is)
    (case hm_Unlike => k_is)
    (case ga_NoShare => k_is)
    (case gn_NoShare => k_is)
    (case be_NoShare => k_is)
    (case hx_NoShare => k_is)
    (case ha_NoShare => k_is)
    (case hm_NoShare => k_is)
    (case hn => k_is)
    (case htk => k_is)
    (case ia_Fresh => k_is)
    (case im_Fresh => k_is)
    (case k_Fresh_Fresh => kit_is)
    (case s_NoName => k_is)
    (case s_Unlike => k_is)
    (case s_NoShare => k_is)
    (case e_NoName_NoName => kit_is)
    (case e_NoName_Unlike => kit_is)
    (case e_NoName_NoShare => kit_is)
    (case e_Unlike_NoName => kit_is)
    (case e_Unlike_Unlike => kit_is)
    (case e_Unlike_NoShare => kit_is)
    (case e_NoShare_NoName => kit_is)
    (case e_NoShare_Unlike => kit_is)
    (case e_NoShare_NoShare => kit_is)
    (case v_NoName => kit_is)
    (case v_Unlike => kit_is)
    (case v_NoShare => kit_is)
    (case n_NoName => kit_is)
    (case n_Unlike => kit_is)
    (case n_NoShare => kit_is)
