import PyProof.Rows.All
import Wide.All
import OpenK.AllK
import Wide.FinOn
import Lean
import PyProof.EqAt
import PyProof.EqKinds
import PyProof.TupleCall
import PyProof.StationsW
import PyProof.ExcClass2
import PyProof.ExcArgs
import PyProof.ExcArgsOwn
import PyProof.CompFree
import PyProof.CompMap
import PyProof.CompUse
import KE.LcSums
import KE.KUnpack
import KE.KBits
import PyProof.StrWalks
import KE.RegKIsAll
import PySem.Challenge.RW_leafframe_k51_numbers_written
set_option Elab.async false
set_option linter.all false
set_option maxRecDepth 100000
namespace L2
open PySem PySem.Spec PyProof.Rows
abbrev Key := Sum Int Str
def keyIs : Key → Value → Bool
  | .inl k, v => Value.isInt k v
  | .inr x, v => Value.isStrOf x v
def keyH (w : World) : Key → Int
  | .inl k => hashInt k
  | .inr x => hashStr w x
theorem keyIs_shape : ∀ {k : Key} {v : Value}, keyIs k v = true → (∃ i t, k = Sum.inl i ∧ v = Value.int i t) ∨ (∃ x t, k = Sum.inr x ∧ v = Value.str x t)
  | .inl i, v, h => by
    obtain ⟨t, e⟩ := Value.isInt_shape (k := i) (v := v) h
    exact .inl ⟨i, t, rfl, e⟩
  | .inr x, v, h => by
    obtain ⟨t, e⟩ := Value.isStrOf_shape (x := x) (v := v) h
    exact .inr ⟨x, t, rfl, e⟩
theorem key_ll (a b : Int) : decide ((Sum.inl a : Key) = Sum.inl b) = (a == b) := by
  by_cases e : a = b
  · subst e; simp
  · have h : ¬ (Sum.inl a : Key) = Sum.inl b := fun q => e (Sum.inl.inj q)
    rw [decide_eq_false h]
    exact (beq_eq_false_iff_ne.mpr e).symm
theorem key_rr (a b : Str) : decide ((Sum.inr a : Key) = Sum.inr b) = decide (a = b) := by
  by_cases e : a = b
  · subst e; simp
  · have h : ¬ (Sum.inr a : Key) = Sum.inr b := fun q => e (Sum.inr.inj q)
    rw [decide_eq_false h, decide_eq_false e]
theorem key_lr (a : Int) (b : Str) : decide ((Sum.inl a : Key) = Sum.inr b) = false := decide_eq_false (fun q => nomatch q)
theorem key_rl (a : Str) (b : Int) : decide ((Sum.inr a : Key) = Sum.inl b) = false := decide_eq_false (fun q => nomatch q)
def mixKind (prog : Program) (w : World) : PySem.KeyKind prog w Key where
  is := keyIs
  hash := keyH w
  inj := fun v a b ha hb => by
    rcases keyIs_shape ha with ⟨i, t, rfl, rfl⟩ | ⟨x, t, rfl, rfl⟩
    · rcases keyIs_shape hb with ⟨j, u, rfl, e⟩ | ⟨y, u, rfl, e⟩
      · injection e with e1 _; rw [e1]
      · exact nomatch e
    · rcases keyIs_shape hb with ⟨j, u, rfl, e⟩ | ⟨y, u, rfl, e⟩
      · exact nomatch e
      · injection e with e1 _; rw [e1]
  byValue := fun k v h => by
    rcases keyIs_shape h with ⟨i, t, rfl, rfl⟩ | ⟨x, t, rfl, rfl⟩ <;> rfl
  pyHash := fun hv h => by
    rcases keyIs_shape hv with ⟨i, t, rfl, rfl⟩ | ⟨x, t, rfl, rfl⟩
    · exact wpAny_pyHash_int h
    · exact wpAny_pyHash_str h
  eqBool := fun hu hv h => by
    rcases keyIs_shape hu with ⟨i, t, rfl, rfl⟩ | ⟨x, t, rfl, rfl⟩
    · rcases keyIs_shape hv with ⟨j, u, rfl, rfl⟩ | ⟨y, u, rfl, rfl⟩
      · rw [key_ll] at h; exact wpAny_eqBool_int h
      · rw [key_lr] at h; exact SeqAt.EqAt.int_str i t y u _ _ _ _ h
    · rcases keyIs_shape hv with ⟨j, u, rfl, rfl⟩ | ⟨y, u, rfl, rfl⟩
      · rw [key_rl] at h; exact SeqAt.EqAt.str_int x t j u _ _ _ _ h
      · rw [key_rr] at h; exact wpAny_eqBool_str h
  «strs» := fun k x t v h => by
    rcases keyIs_shape h with ⟨i, u, rfl, e⟩ | ⟨y, u, rfl, e⟩
    · exact nomatch e
    · injection e with e1 _
      subst e1
      cases v <;> rfl
end L2
namespace L2
open PySem PySem.Spec PyProof.Rows
inductive V where
  | non | bl (b : Bool) | int (i : Int) | str (x : Str) | byt (b : Array UInt8) | flt (b : UInt64) | ref (a : Addr) | ty (n : String)
  deriving DecidableEq
def RelV : V → Value → Prop
  | .non, u => u = Value.none
  | .bl b, u => u = Value.bool b
  | .int i, u => ∃ t, u = Value.int i t
  | .str x, u => ∃ t, u = Value.str x t
  | .byt b, u => ∃ t, u = Value.bytes b t
  | .flt b, u => ∃ t, u = Value.float b t
  | .ref a, u => u = Value.ref a
  | .ty n, u => u = Value.type n
abbrev Vals : List V → List Value → Prop := Paired RelV
theorem Vals.length {xs : List V} {us : List Value} (r : Vals xs us) : xs.length = us.length := Paired.length r
theorem Vals.get : ∀ {xs : List V} {us : List Value} {i : Nat} {x : V}, Vals xs us → xs[i]? = some x → ∃ u, us[i]? = some u ∧ RelV x u
  | _, _, _, _, .nil, e => by simp at e
  | _, _, 0, _, .cons r _, e => by simp at e; subst e; exact ⟨_, rfl, r⟩
  | _, _, i + 1, x, .cons _ t, e => by
    obtain ⟨u, h1, h2⟩ := Vals.get (i := i) (x := x) t (by simpa using e)
    exact ⟨u, by simpa using h1, h2⟩
theorem Vals.append : ∀ {xs ys : List V} {us ws : List Value}, Vals xs us → Vals ys ws → Vals (xs ++ ys) (us ++ ws)
  | _, _, _, _, .nil, s => s
  | _, _, _, _, .cons r t, s => .cons r (Vals.append t s)
theorem Vals.take : ∀ {xs : List V} {us : List Value} (n : Nat), Vals xs us → Vals (xs.take n) (us.take n)
  | _, _, 0, _ => .nil
  | _, _, _ + 1, .nil => .nil
  | _, _, n + 1, .cons r t => .cons r (Vals.take n t)
theorem Vals.drop : ∀ {xs : List V} {us : List Value} (n : Nat), Vals xs us → Vals (xs.drop n) (us.drop n)
  | _, _, 0, r => r
  | _, _, _ + 1, .nil => .nil
  | _, _, n + 1, .cons _ t => Vals.drop n t
def RelO : Option V → Option Value → Prop
  | some v, some u => RelV v u
  | none, none => True
  | _, _ => False
def KV {κ : Type} : List (κ × V) → List (κ × Value) → Prop := Paired fun (p : κ × V) (q : κ × Value) => p.1 = q.1 ∧ RelV p.2 q.2
def kV : Key → V
  | .inl i => .int i
  | .inr x => .str x
inductive HO where
  | lst (xs : List V)
  | tup (xs : List V)
  | dK (kvs : List (Key × V)) | dT (kvs : List (List Key × V))
  | set (S : Int → Bool) (n : Nat)
  | ins (C dx : Addr) (fs : List (Str × V))
  | own (x : Addr)
  | xd (fs : List (Str × V))
  | met (f x : Addr)
  | rng (lo hi : Int)
  | frz (o : Obj) (u : HO)
  | tbl (ps : Array Value)
  | ext (φ : Heap → Prop)
abbrev Hp := Addr → Option HO
def upd (H : Hp) (a : Addr) (o : HO) : Hp := fun b => if b = a then some o else H b
theorem upd_same {H : Hp} {a : Addr} {o : HO} : upd H a o a = some o := by unfold upd; rw [if_pos rfl]
theorem upd_ne {H : Hp} {a b : Addr} {o : HO} (h : b ≠ a) : upd H a o b = H b := by unfold upd; rw [if_neg h]
theorem upd_upd {H : Hp} {a : Addr} {o u : HO} : upd (upd H a o) a u = upd H a u := by
  funext b; unfold upd; split <;> rfl
theorem ne_of_none {H : Hp} {a b : Addr} {o : HO} (h : H a = some o) (h' : H b = none) : a ≠ b := by
  intro e; subst e; rw [h] at h'; cases h'
section
variable (P : Program) (w : World)
def ObjOk (H : Hp) (h : Heap) (a : Addr) : HO → Prop
  | .lst xs => xs.length ≤ sizeLine ∧ ∃ (its : List Value) (n : Nat), Vals xs its ∧ h.get? a = some { cls := .type "list", data := .seq its.toArray n }
  | .tup xs => xs.length ≤ sizeLine ∧ ∃ its : List Value, Vals xs its ∧ IsTup h a its.toArray
  | .dK kvs => kvs.length ≤ sizeLine ∧ (a == sysModules) = false ∧ ∃ vs, KV kvs vs ∧ h.DictOf (mixKind P w) a vs
  | .dT kvs => kvs.length ≤ sizeLine ∧ (a == sysModules) = false ∧ ∃ xs : List (List Key × Addr × Value),
      Paired (fun (p : List Key × V) (q : List Key × Addr × Value) => p.1 = q.1 ∧ H q.2.1 = some (.tup (p.1.map kV)) ∧ RelV p.2 q.2.2) kvs xs ∧
      ∃ o es ep, h.get? a = some o ∧ o.ExactDict ∧ o.data = .dict es ep ∧ es.toList = xs.map (entryOfKey (tupleKind (mixKind P w))) ∧ (xs.map (·.1)).Nodup
  | .set S n => h.SetOf (intKind P w) a S n
  | .ins C dx fs => H dx = some (.own a) ∧ fs.length ≤ 1000 ∧ dx ≠ a ∧ h.get? a = some (PySem.W.instObj C dx) ∧
      ∃ mA, h.Ns1 dx mA ∧ (∀ f, RelO (fs.lookup f) (mA f)) ∧ PySem.Within mA (fs.map (·.1))
  | .own _ => ∃ o, h.get? a = some o
  | .xd fs => ∃ mA, h.Ns1 a mA ∧ ∀ f, RelO (fs.lookup f) (mA f)
  | .rng lo hi => ∃ t u v, h.get? a = some { cls := .type "range", data := .fields #[.int lo t, .int hi u, .int 1 v] }
  | .frz o u => h.get? a = some o ∧ ObjOk H h a u
  | .tbl ps => h.get? a = some { cls := .none, data := .fields ps }
  | .met f x => h.get? a = some (PySem.W.methodObj (.ref f) (.ref x))
  | .ext φ => φ h ∧ (∃ o, h.get? a = some o) ∧ ∀ h1 h2 : Heap, φ h1 → (∀ o, h1.get? a = some o → h2.get? a = some o) → φ h2
def HOk (H : Hp) (h : Heap) : Prop := ∀ a o, H a = some o → ObjOk P w H h a o
end
section
variable {P : Program} {w : World} {H H' : Hp} {h h' : Heap} {a : Addr} {o : HO}
theorem ObjOk.lt (x : ObjOk P w H h a o) : a < h.objs.size := by
  cases o with
  | lst xs => obtain ⟨_, _, _, _, e⟩ := x; exact Heap.lt_size e
  | tup xs => obtain ⟨_, _, _, p⟩ := x; exact p.lt
  | dK kvs => obtain ⟨_, _, _, _, o, _, _, e, _⟩ := x; exact Heap.lt_size e
  | dT kvs => obtain ⟨_, _, _, _, o, _, _, e, _⟩ := x; exact Heap.lt_size e
  | set S n => obtain ⟨o, _, _, _, e, _⟩ := x; exact Heap.lt_size e
  | ins C dx fs => obtain ⟨_, _, _, e, _⟩ := x; exact Heap.lt_size e
  | own y => obtain ⟨_, e⟩ := x; exact Heap.lt_size e
  | xd fs => obtain ⟨_, ⟨_, _, _, e, _⟩, _⟩ := x; exact Heap.lt_size e
  | rng lo hi => obtain ⟨_, _, _, e⟩ := x; exact Heap.lt_size e
  | frz ob u => obtain ⟨e, _⟩ := x; exact Heap.lt_size e
  | tbl ps => exact Heap.lt_size (show h.get? a = some _ from x)
  | met f y => exact Heap.lt_size (show h.get? a = some _ from x)
  | ext φ => obtain ⟨_, ⟨_, e⟩, _⟩ := x; exact Heap.lt_size e
theorem Paired.mapP {α β : Type} {F G : α → β → Prop} : ∀ {l₁ : List α} {l₂ : List β}, Paired F l₁ l₂ → (∀ a b, F a b → G a b) → Paired G l₁ l₂
  | _, _, .nil, _ => .nil
  | _, _, .cons r t, f => .cons (f _ _ r) (Paired.mapP t f)
theorem ObjOk.stay (x : ObjOk P w H h a o) (k : ∀ b u, (b = a ∨ H b = some (.own a)) → h.get? b = some u → h'.get? b = some u)
    (ho : ∀ b, H b = some (.own a) → H' b = some (.own a)) (ht : ∀ b xs, H b = some (.tup xs) → H' b = some (.tup xs)) : ObjOk P w H' h' a o := by
  induction o with
  | lst xs => obtain ⟨z, its, n, r, e⟩ := x; exact ⟨z, its, n, r, k _ _ (.inl rfl) e⟩
  | tup xs => obtain ⟨z, its, r, ob, e, c⟩ := x; exact ⟨z, its, r, ob, k _ _ (.inl rfl) e, c⟩
  | dK kvs => obtain ⟨z, y, vs, r, ob, es, ep, e, c⟩ := x; exact ⟨z, y, vs, r, ob, es, ep, k _ _ (.inl rfl) e, c⟩
  | dT kvs =>
    obtain ⟨z, y, xs, r, ob, es, ep, e, c⟩ := x
    exact ⟨z, y, xs, Paired.mapP r fun p q z => ⟨z.1, ht _ _ z.2.1, z.2.2⟩, ob, es, ep, k _ _ (.inl rfl) e, c⟩
  | set S n => obtain ⟨ob, es, ep, t, e, c⟩ := x; exact ⟨ob, es, ep, t, k _ _ (.inl rfl) e, c⟩
  | ins C dx fs =>
    obtain ⟨d, z, ne, e, mA, ⟨od, es, ep, e2, c⟩, r⟩ := x
    exact ⟨ho _ d, z, ne, k _ _ (.inl rfl) e, mA, ⟨od, es, ep, k _ _ (.inr d) e2, c⟩, r⟩
  | own y => obtain ⟨ob, e⟩ := x; exact ⟨ob, k _ _ (.inl rfl) e⟩
  | xd fs => obtain ⟨mA, ⟨od, es, ep, e, c⟩, r⟩ := x; exact ⟨mA, ⟨od, es, ep, k _ _ (.inl rfl) e, c⟩, r⟩
  | rng lo hi => obtain ⟨t, u, v, e⟩ := x; exact ⟨t, u, v, k _ _ (.inl rfl) e⟩
  | frz ob u ih => obtain ⟨e, q⟩ := x; exact ⟨k _ _ (.inl rfl) e, ih q⟩
  | tbl ps =>
    have e : h.get? a = some { cls := .none, data := .fields ps } := x
    show h'.get? a = some { cls := .none, data := .fields ps }
    exact k a _ (.inl rfl) e
  | met f y =>
    have e : h.get? a = some (PySem.W.methodObj (.ref f) (.ref y)) := x
    show h'.get? a = some (PySem.W.methodObj (.ref f) (.ref y))
    exact k a _ (.inl rfl) e
  | ext φ => obtain ⟨p, ⟨o, e⟩, st⟩ := x; exact ⟨st _ _ p fun o q => k _ _ (.inl rfl) q, ⟨o, k _ _ (.inl rfl) e⟩, st⟩
theorem HOk.lt (x : HOk P w H h) (e : H a = some o) : a < h.objs.size := (x a o e).lt
theorem HOk.fresh (x : HOk P w H h) (e : h.objs.size ≤ a) : H a = none := by
  cases q : H a with
  | none => rfl
  | some u => exact absurd (Nat.lt_of_lt_of_le (x.lt q) e) (Nat.lt_irrefl _)
theorem HOk.kept (x : HOk P w H h) (k : ∀ b u, h.get? b = some u → h'.get? b = some u) : HOk P w H h' := fun a o e =>
  (x a o e).stay (fun b u _ q => k b u q) (fun _ q => q) fun _ _ q => q
theorem HOk.laid (x : HOk P w H h) (k : ∀ b u, h.get? b = some u → h'.get? b = some u) (hp : h.objs.size ≤ a) (new : ObjOk P w (upd H a o) h' a o) : HOk P w (upd H a o) h' := fun b u e => by
  have hn := x.fresh hp
  by_cases hb : b = a
  · subst hb; rw [upd_same] at e; cases e; exact new
  · rw [upd_ne hb] at e
    exact (x b u e).stay (fun c v _ q => k c v q) (fun c q => by rw [upd_ne (ne_of_none q hn)]; exact q) fun c xs q => by rw [upd_ne (ne_of_none q hn)]; exact q
end
def Rd (H : Hp) (a : Addr) (u : HO) : Prop := H a = some u ∨ ∃ o, H a = some (.frz o u)
theorem Rd.ok {P : Program} {w : World} {H : Hp} {h : Heap} {a : Addr} {u : HO} (r : Rd H a u) (x : HOk P w H h) : ObjOk P w H h a u := by
  rcases r with r | ⟨o, r⟩
  · exact x a u r
  · obtain ⟨_, q⟩ := x a _ r
    exact q
def Mut : Option HO → Prop
  | some (.lst _) => True
  | some (.dK _) => True
  | some (.dT _) => True
  | some (.set _ _) => True
  | some (.ins _ _ _) => True
  | some (.ext _) => True
  | _ => False
section
variable {P : Program} {w : World} {H : Hp} {h h' : Heap} {x e : Addr} {o' : HO}
theorem HOk.write (ok : HOk P w H h) (mu : Mut (H x)) (he : e = x ∨ H e = some (.own x)) (k : ∀ b u, b ≠ e → h.get? b = some u → h'.get? b = some u) (heo : ∃ u, h'.get? e = some u)
    (new : ObjOk P w (upd H x o') h' x o') : HOk P w (upd H x o') h' := fun b u q => by
  have nown : ∀ c y, H c = some (.own y) → c ≠ x := fun c y r z => by subst z; rw [r] at mu; exact mu
  have ntup : ∀ c xs, H c = some (.tup xs) → c ≠ x := fun c xs r z => by subst z; rw [r] at mu; exact mu
  by_cases hb : b = x
  · subst hb; rw [upd_same] at q; cases q; exact new
  · rw [upd_ne hb] at q
    by_cases hbe : b = e
    · have q' : H b = some (.own x) := by
        rcases he with z | z
        · exact absurd (hbe.trans z) hb
        · rw [hbe]; exact z
      rw [q] at q'; cases q'
      obtain ⟨v, hv⟩ := heo
      exact ⟨v, by rw [hbe]; exact hv⟩
    · refine (ok b u q).stay (fun c v hc r => k c v ?_ r) (fun c r => by rw [upd_ne (nown c b r)]; exact r) fun c xs r => by rw [upd_ne (ntup c xs r)]; exact r
      rcases hc with rfl | hc
      · exact hbe
      · rintro rfl
        rcases he with z | z
        · exact nown c b hc z
        · rw [hc] at z; cases z; exact hb rfl
end
structure Un (fs ex : List Addr) (H H' : Hp) (h h' : Heap) : Prop where
  keep : ∀ b o, h.get? b = some o → H b = none → b ∉ fs → b ∉ ex → h'.get? b = some o
  slot : ∀ b o, h.get? b = some o → H b = none → b ∈ fs → b ∉ ex → ∃ sl, h'.get? b = some { o with slots := sl }
  free : ∀ b o, h.get? b = some o → H b = none → b ∉ ex → H' b = none
  there : ∀ b o, h.get? b = some o → b ∉ ex → ∃ o', h'.get? b = some o'
  tups : ∀ b xs, H b = some (.tup xs) → H' b = some (.tup xs)
  frzs : ∀ b o u, H b = some (.frz o u) → H' b = some (.frz o u)
  tbls : ∀ b ps, H b = some (.tbl ps) → ∃ more, H' b = some (.tbl (ps ++ more))
section
variable {fs fs' ex ex' : List Addr} {H H1 H2 : Hp} {h h1 h2 h' : Heap} {a x e : Addr} {o : HO}
theorem Un.any (u : Un fs ex H H1 h h1) {b : Addr} {ob : Obj} (q : h.get? b = some ob) (n : H b = none) (hx : b ∉ ex) : ∃ sl, h1.get? b = some { ob with slots := sl } := by
  by_cases hb : b ∈ fs
  · exact u.slot b ob q n hb hx
  · exact ⟨ob.slots, u.keep b ob q n hb hx⟩
theorem Un.kept (k : ∀ b u, h.get? b = some u → h'.get? b = some u) : Un fs ex H H h h' :=
  ⟨fun b ob q _ _ _ => k b ob q, fun b ob q _ _ _ => ⟨ob.slots, k b ob q⟩, fun _ _ _ n _ => n, fun b ob q _ => ⟨ob, k b ob q⟩, fun _ _ q => q, fun _ _ _ q => q, fun _ ps q => ⟨#[], by rw [q]; simp⟩⟩
theorem Un.refl : Un fs ex H H h h := Un.kept fun _ _ q => q
theorem Un.laid (k : ∀ b u, h.get? b = some u → h'.get? b = some u) (hp : h.objs.size ≤ a) (hn : H a = none) : Un fs ex H (upd H a o) h h' where
  keep := fun b u q _ _ _ => k b u q
  slot := fun b u q _ _ _ => ⟨u.slots, k b u q⟩
  free := fun b u q n _ => by rw [upd_ne (Nat.ne_of_lt (Nat.lt_of_lt_of_le (Heap.lt_size q) hp))]; exact n
  there := fun b u q _ => ⟨u, k b u q⟩
  tups := fun b xs q => by rw [upd_ne (ne_of_none q hn)]; exact q
  frzs := fun b u xs q => by rw [upd_ne (ne_of_none q hn)]; exact q
  tbls := fun b ps q => ⟨#[], by rw [upd_ne (ne_of_none q hn), q]; simp⟩
theorem Un.write (mu : Mut (H x)) (he : e = x ∨ H e = some (.own x)) (k : ∀ b u, b ≠ e → h.get? b = some u → h'.get? b = some u) (heo : ∃ u, h'.get? e = some u) : Un fs ex H (upd H x o) h h' := by
  have hx : ∀ b, H b = none → b ≠ x := fun b n z => by subst z; rw [n] at mu; exact mu
  have hb : ∀ b, H b = none → b ≠ e := fun b n z => by
    subst z
    rcases he with r | r
    · exact hx b n r
    · rw [n] at r; cases r
  have hm : ∀ b u, H b = some u → ¬ Mut (some u) → b ≠ x := fun b u q nm z => by subst z; rw [q] at mu; exact nm mu
  refine ⟨fun b u q n _ _ => k b u (hb b n) q, fun b u q n _ _ => ⟨u.slots, k b u (hb b n) q⟩, fun b u q n _ => by rw [upd_ne (hx b n)]; exact n, fun b u q _ => ?_,
    fun b xs q => by rw [upd_ne (hm b _ q fun z => z)]; exact q, fun b u xs q => by rw [upd_ne (hm b _ q fun z => z)]; exact q, fun b ps q => ⟨#[], by rw [upd_ne (hm b _ q fun z => z), q]; simp⟩⟩
  by_cases hbe : b = e
  · subst hbe; exact heo
  · exact ⟨u, k b u hbe q⟩
end
def trk (h : Heap) (H : Hp) : List Addr := (List.range h.objs.size).filter fun a => (H a).isSome
def hidT (h : Heap) (H : Hp) : Heap := PySem.W.hideAll h (trk h H)
theorem hidT_size (h : Heap) (H : Hp) : (hidT h H).objs.size = h.objs.size := PySem.W.hideAll_size _ _
theorem hidT_get {h : Heap} {H : Hp} {b : Addr} {o : Obj} (e : h.get? b = some o) (n : H b = none) : (hidT h H).get? b = some o :=
  PySem.W.hideAll_get _ e fun hm => by
    have q : (H b).isSome = true := (List.mem_filter.mp hm).2
    rw [n] at q; simp at q
theorem of_hidT {h : Heap} {H : Hp} {b : Addr} {o : Obj} (e : (hidT h H).get? b = some o) : h.get? b = some o ∧ H b = none := by
  have e' : h.get? b = some o := PySem.W.of_hideAll (trk h H) e
  refine ⟨e', ?_⟩
  cases q : H b with
  | none => rfl
  | some x =>
    have hm : b ∈ trk h H := List.mem_filter.mpr ⟨List.mem_range.mpr (Heap.lt_size e'), by simp [q]⟩
    have z : (hidT h H).get? b = none := PySem.W.hideAll_none (trk h H) hm
    rw [z] at e; cases e
end L2
namespace L2
open PySem PySem.Spec PyProof.Rows
structure Mod (K : PySem.W.Frag) (mg : Str → Option Value) (base : Heap) : Prop where
  kin : K.In base
  glob : base.Ns mainGlobals mg
  blt : ∃ mb, base.Ns builtinsNs mb ∧ ∀ x : Str, x ≠ "__name__" → mb x = bootBuiltins x
  nolimit : base.NoLimit
structure Cx where
  prog : Program
  w : World
  K : PySem.W.Frag
  mg : Str → Option Value
  base : Heap
  A : Around
  N : List Str
  s₀ : Shared
  H₀ : Hp
  env : Env
  outer : List Env
  stack : List Env
  ex : List Addr
  fn : Str → Bool
  calm : Bool
  pn : List (Addr × Obj)
  xe : Value → Shared → Prop
def frs (l : List Env) : List Addr := l.filterMap (·.frame)
abbrev Cx.fs (X : Cx) : List Addr := frs X.outer
def Vis (sc : Scope) (x : Str) : Prop := sc.names.lookup x = some .local ∨ sc.names.lookup x = some .cell ∨ sc.names.lookup x = some .free
def Loc (sc : Scope) (x : Str) : Prop := sc.names.lookup x = some .local ∨ sc.names.lookup x = some .cell
def Look (env : Env) (h : Heap) (m : Str → Option Value) (x : Str) (u : Value) : Prop :=
  (env.kindOf x = some .local ∧ m x = some u) ∨ ((env.kindOf x = some .cell ∨ env.kindOf x = some .free) ∧ ∃ c, env.cells.lookup x = some c ∧ h.IsCell c (some u))
structure Cx.Ok (X : Cx) : Prop where
  mod : Mod X.K X.mg X.base
  kind : X.env.scope.kind = .function
  glob : X.env.globals = mainGlobals
  blt : X.env.builtins = builtinsNs
  above : X.s₀.heap.objs.size ≤ X.env.locals
  inj : ∀ x y c, X.env.cells.lookup x = some c → X.env.cells.lookup y = some c → x = y
  has : ∀ x, (X.env.kindOf x = some .cell ∨ X.env.kindOf x = some .free) → ∃ c, X.env.cells.lookup x = some c
  cab : ∀ x c, X.fn x = true → X.env.cells.lookup x = some c → X.s₀.heap.objs.size ≤ c
  hd : X.calm = true → X.A.handled = none
  frames : X.A.frames = some X.stack
  stk : X.stack = X.outer ∨ (X.stack = X.env :: X.outer ∧ X.env.frame = some X.env.locals)
  exf : ∀ b ∈ X.ex, b ≠ X.env.locals ∧ ∀ x c, X.env.cells.lookup x = some c → c ≠ b
  bs : ∀ b o, X.base.get? b = some o → X.s₀.heap.get? b = some o ∧ X.H₀ b = none
  bsz : X.base.objs.size ≤ X.s₀.heap.objs.size
  noex : ∀ b o, X.base.get? b = some o → b ∉ X.ex
  exfs : ∀ b ∈ X.ex, b ∉ X.fs
  funs : X.s₀.heap.FunFrames X.base X.outer
  frf : ∀ b ∈ X.fs, X.H₀ b = none
structure Inv (X : Cx) (pins : List (Addr × Obj)) (σ : List (Option V)) (H : Hp) (s : Shared) : Prop where
  ok : X.Ok
  os : s.os = X.s₀.os
  bare : AllBare s.gens
  base : Un X.fs X.ex X.H₀ H X.s₀.heap s.heap
  loc : ∃ m, s.heap.Ns X.env.locals m ∧ ∀ (i : Nat) (x : Str) (v : V), X.N[i]? = some x → σ[i]? = some (some v) → Vis X.env.scope x → ∃ u, RelV v u ∧ Look X.env s.heap m x u
  cell : ∀ x c, X.env.cells.lookup x = some c → ∃ v, s.heap.IsCell c v
  free : H X.env.locals = none
  freeC : ∀ x c, X.env.cells.lookup x = some c → H c = none
  pin : ∀ p ∈ X.pn ++ pins, s.heap.get? p.1 = some p.2 ∧ H p.1 = none ∧ p.1 ≠ X.env.locals ∧ p.1 ∉ X.fs ∧ ∀ v, p.2.data ≠ .cell v
  hok : HOk X.prog X.w H s.heap
  len : σ.length = X.N.length
section
variable {X : Cx} {pins : List (Addr × Obj)} {σ : List (Option V)} {H H' : Hp} {s : Shared} {h' : Heap}
theorem Cx.Ok.nofr (ok : X.Ok) {b : Addr} {o : Obj} (e : X.base.get? b = some o) : b ∉ X.fs := fun hb => by
  have := (ok.funs.mem hb).1
  rw [e] at this; cases this
theorem Inv.bs (I : Inv X pins σ H s) : ∀ b o, X.base.get? b = some o → s.heap.get? b = some o ∧ H b = none := fun b o e =>
  ⟨I.base.keep b o (I.ok.bs b o e).1 (I.ok.bs b o e).2 (I.ok.nofr e) (I.ok.noex b o e), I.base.free b o (I.ok.bs b o e).1 (I.ok.bs b o e).2 (I.ok.noex b o e)⟩
theorem Inv.bk (I : Inv X pins σ H s) : ∀ b o, X.base.get? b = some o → s.heap.get? b = some o := fun b o e => (I.bs b o e).1
theorem Inv.mod (I : Inv X pins σ H s) : Mod X.K X.mg X.base := I.ok.mod
theorem Inv.kIn (I : Inv X pins σ H s) : X.K.In s.heap := I.ok.mod.kin.keeps I.bk
theorem Inv.lt (I : Inv X pins σ H s) : X.env.locals < s.heap.objs.size := let ⟨_, hn, _⟩ := I.loc; hn.lt
theorem Inv.sz (I : Inv X pins σ H s) : X.s₀.heap.objs.size ≤ s.heap.objs.size := Nat.le_trans I.ok.above (Nat.le_of_lt I.lt)
theorem Inv.nofs (I : Inv X pins σ H s) {a : Addr} (h : s.heap.objs.size ≤ a) : a ∉ X.fs := fun hb => by
  obtain ⟨_, o, ho, _⟩ := I.ok.funs.mem hb
  exact absurd (Nat.lt_of_lt_of_le (Heap.lt_size ho) (Nat.le_trans I.sz h)) (Nat.lt_irrefl _)
theorem Inv.cne (I : Inv X pins σ H s) : ∀ x c, X.env.cells.lookup x = some c → c ≠ X.env.locals := fun x c e z => by
  obtain ⟨v, o, ho, hd⟩ := I.cell x c e
  obtain ⟨m, ⟨o', es, ep, ho', hd', _⟩, _⟩ := I.loc
  rw [z, ho'] at ho; cases ho; rw [hd'] at hd; cases hd
theorem Inv.funs (I : Inv X pins σ H s) : s.heap.FunFrames X.base X.outer := by
  have all : ∀ (l : List Env), (∀ b ∈ frs l, b ∈ X.fs) → X.s₀.heap.FunFrames X.base l → s.heap.FunFrames X.base l := by
    intro l
    induction l with
    | nil => intro _ _; trivial
    | cons env r ih =>
      intro hs hl
      obtain ⟨hk, ⟨L, o, hf, hn, ho, hd⟩, hr⟩ := hl
      have hL : L ∈ X.fs := hs L (by unfold frs; rw [List.filterMap_cons, hf]; exact List.mem_cons_self)
      obtain ⟨sl, e⟩ := I.base.slot L o ho (I.ok.frf L hL) hL fun z => I.ok.exfs L z hL
      exact ⟨hk, ⟨L, _, hf, hn, e, hd⟩, ih (fun b hb => hs b (by unfold frs; rw [List.filterMap_cons, hf]; exact List.mem_cons_of_mem _ hb)) hr⟩
  exact all X.outer (fun _ hb => hb) I.ok.funs
theorem Inv.stack (I : Inv X pins σ H s) : s.heap.FunFrames X.base X.stack := by
  rcases I.ok.stk with e | ⟨e, hf⟩
  · rw [e]; exact I.funs
  · rw [e]
    obtain ⟨m, hn, _⟩ := I.loc
    refine .cons (by rw [I.ok.kind]; decide) hf hn ?_ I.funs
    exact Heap.get?_none_of_le (Nat.le_trans I.ok.bsz I.ok.above)
theorem Inv.stkSub (I : Inv X pins σ H s) : ∀ b ∈ frs X.stack, b ∈ X.env.locals :: X.fs := fun b hb => by
  rcases I.ok.stk with e | ⟨e, hf⟩
  · rw [e] at hb; exact List.mem_cons_of_mem _ hb
  · rw [e] at hb
    unfold frs at hb
    rw [List.filterMap_cons, hf] at hb
    exact hb
theorem Inv.stkFree (I : Inv X pins σ H s) : ∀ b ∈ frs X.stack, H b = none := fun b hb => by
  rcases List.mem_cons.mp (I.stkSub b hb) with e | hb
  · rw [e]; exact I.free
  · obtain ⟨_, o, ho, _⟩ := I.ok.funs.mem hb
    exact I.base.free b o ho (I.ok.frf b hb) fun z => I.ok.exfs b z hb
theorem Inv.step {g' : Array GenState} {t' : Nat} {d' : Drawn} {ch : List Addr} (I : Inv X pins σ H s)
    (hch : ∀ b ∈ ch, (b ∈ X.ex ∨ X.s₀.heap.objs.size ≤ b) ∧ b ≠ X.env.locals ∧ (∀ x c, X.env.cells.lookup x = some c → c ≠ b) ∧ ∀ p ∈ X.pn ++ pins, p.1 ≠ b)
    (keep : ∀ b o, b ≠ X.env.locals → b ∉ X.fs → b ∉ ch → s.heap.get? b = some o → H b = none → h'.get? b = some o)
    (slot : ∀ b o, b ≠ X.env.locals → b ∈ X.fs → b ∉ ch → s.heap.get? b = some o → H b = none → ∃ sl, h'.get? b = some { o with slots := sl }) (free : ∀ b o, b ∉ ch → s.heap.get? b = some o → H b = none → H' b = none)
    (there : ∀ b o, b ∉ ch → s.heap.get? b = some o → ∃ o', h'.get? b = some o')
    (tups : ∀ b xs, H b = some (.tup xs) → H' b = some (.tup xs)) (frzs : ∀ b o u, H b = some (.frz o u) → H' b = some (.frz o u)) (tbls : ∀ b ps, H b = some (.tbl ps) → ∃ more, H' b = some (.tbl (ps ++ more)))
    (ns : ∀ m, s.heap.Ns X.env.locals m → h'.Ns X.env.locals m) (hok : HOk X.prog X.w H' h') (hg : AllBare g') :
    Inv X pins σ H' { s with heap := h', gens := g', drawn := d', toks := t' } := by
  have neL : ∀ b o, X.s₀.heap.get? b = some o → b ≠ X.env.locals := fun b o e => Nat.ne_of_lt (Nat.lt_of_lt_of_le (Heap.lt_size e) I.ok.above)
  have neC : ∀ b o, X.s₀.heap.get? b = some o → b ∉ X.ex → b ∉ ch := fun b o e hx hb => by
    rcases (hch b hb).1 with z | z
    · exact hx z
    · exact absurd (Nat.lt_of_lt_of_le (Heap.lt_size e) z) (Nat.lt_irrefl _)
  have cellK : ∀ x c, X.env.cells.lookup x = some c → ∀ v, s.heap.IsCell c v → h'.IsCell c v := fun x c e v ⟨o, ho, hd⟩ => by
    have nch : c ∉ ch := fun z => (hch c z).2.2.1 x c e rfl
    by_cases hc : c ∈ X.fs
    · obtain ⟨sl, q⟩ := slot c o (I.cne x c e) hc nch ho (I.freeC x c e)
      exact ⟨_, q, hd⟩
    · exact ⟨o, keep c o (I.cne x c e) hc nch ho (I.freeC x c e), hd⟩
  refine ⟨I.ok, I.os, hg, ⟨fun b o e n hb hx => ?_, fun b o e n hb hx => ?_, fun b o e n hx => ?_, fun b o e hx => ?_, fun b xs e => tups b xs (I.base.tups b xs e), fun b o xs e => frzs b o xs (I.base.frzs b o xs e), fun b ps e => ?_⟩, ?_, fun x c e => ?_, ?_, fun x c e => ?_, fun p hp => ?_, hok, I.len⟩
  · exact keep b o (neL b o e) hb (neC b o e hx) (I.base.keep b o e n hb hx) (I.base.free b o e n hx)
  · obtain ⟨sl, e1⟩ := I.base.slot b o e n hb hx
    obtain ⟨sl', e2⟩ := slot b _ (neL b o e) hb (neC b o e hx) e1 (I.base.free b o e n hx)
    exact ⟨sl', e2⟩
  · obtain ⟨o', e1⟩ := I.base.there b o e hx
    exact free b o' (neC b o e hx) e1 (I.base.free b o e n hx)
  · obtain ⟨o', e1⟩ := I.base.there b o e hx
    exact there b o' (neC b o e hx) e1
  · obtain ⟨m1, e1⟩ := I.base.tbls b ps e
    obtain ⟨m2, e2⟩ := tbls b _ e1
    exact ⟨m1 ++ m2, by rw [e2, Array.append_assoc]⟩
  · obtain ⟨m, hn, hl⟩ := I.loc
    refine ⟨m, ns m hn, fun i x v e1 e2 e3 => ?_⟩
    obtain ⟨u, r, l⟩ := hl i x v e1 e2 e3
    refine ⟨u, r, ?_⟩
    rcases l with l | ⟨k, c, e, z⟩
    · exact .inl l
    · exact .inr ⟨k, c, e, cellK x c e _ z⟩
  · obtain ⟨v, z⟩ := I.cell x c e
    exact ⟨v, cellK x c e v z⟩
  · obtain ⟨m, ⟨o, _, _, ho, _⟩, _⟩ := I.loc
    exact free _ o (fun z => (hch _ z).2.1 rfl) ho I.free
  · obtain ⟨v, o, ho, hd⟩ := I.cell x c e
    exact free c o (fun z => (hch c z).2.2.1 x c e rfl) ho (I.freeC x c e)
  · obtain ⟨e, n, ne, nf, d⟩ := I.pin p hp
    have nch : p.1 ∉ ch := fun z => (hch p.1 z).2.2.2 p hp rfl
    exact ⟨keep p.1 p.2 ne nf nch e n, free p.1 p.2 nch e n, ne, nf, d⟩
theorem Inv.un {t' : Nat} (I : Inv X pins σ H s) (u : Un X.fs [] H H' s.heap h') (hok : HOk X.prog X.w H' h') : Inv X pins σ H' { s with heap := h', toks := t' } := by
  obtain ⟨m, ⟨o, es, ep, ho, r⟩, _⟩ := id I.loc
  obtain ⟨sl, hL⟩ := u.any ho I.free (by simp)
  exact I.step (g' := s.gens) (d' := s.drawn) (ch := []) (fun _ z => nomatch z) (fun b o _ hb _ e n => u.keep b o e n hb (by simp)) (fun b o _ hb _ e n => u.slot b o e n hb (by simp)) (fun b o _ e n => u.free b o e n (by simp)) (fun b o _ e => u.there b o e (by simp)) u.tups u.frzs u.tbls (fun m' hm => by
    obtain ⟨o', es', ep', ho', r'⟩ := hm
    rw [ho] at ho'; cases ho'
    exact ⟨_, es', ep', hL, r'⟩) hok I.bare
theorem Inv.call {g' : Array GenState} {t' : Nat} {d' : Drawn} {ch : List Addr} (I : Inv X pins σ H s) (u : Un (frs X.stack) ch H H' s.heap h') (hok : HOk X.prog X.w H' h') (hg : AllBare g')
    (hch : ∀ b ∈ ch, (b ∈ X.ex ∨ X.s₀.heap.objs.size ≤ b) ∧ b ≠ X.env.locals ∧ (∀ x c, X.env.cells.lookup x = some c → c ≠ b) ∧ ∀ p ∈ X.pn ++ pins, p.1 ≠ b) :
    Inv X pins σ H' { s with heap := h', gens := g', drawn := d', toks := t' } := by
  obtain ⟨m, ⟨o, es, ep, ho, r⟩, _⟩ := id I.loc
  obtain ⟨sl, hL⟩ := u.any ho I.free fun z => (hch _ z).2.1 rfl
  exact I.step (ch := ch) hch (fun b o hL hb hc e n => u.keep b o e n (fun z => (List.mem_cons.mp (I.stkSub b z)).elim hL hb) hc) (fun b o _ _ hc e n => u.any e n hc) (fun b o hc e n => u.free b o e n hc) (fun b o hc e => u.there b o e hc) u.tups u.frzs u.tbls (fun m' hm => by
    obtain ⟨o', es', ep', ho', r'⟩ := hm
    rw [ho] at ho'; cases ho'
    exact ⟨_, es', ep', hL, r'⟩) hok hg
theorem Inv.turned {t' : Nat} {it : Addr} (I : Inv X pins σ H s) (k : ∀ b o, b ≠ it → s.heap.get? b = some o → h'.get? b = some o) (hn : H it = none) (hL : it ≠ X.env.locals)
    (h1 : it ∈ X.ex ∨ X.s₀.heap.objs.size ≤ it) (h2 : ∀ x c, X.env.cells.lookup x = some c → c ≠ it) (h3 : ∀ p ∈ X.pn ++ pins, p.1 ≠ it) : Inv X pins σ H { s with heap := h', toks := t' } := by
  have nit : ∀ b u, H b = some u → b ≠ it := fun b u e z => by rw [z, hn] at e; cases e
  refine I.step (g' := s.gens) (d' := s.drawn) (ch := [it]) (fun b hb => ?_) (fun b o _ _ hc e _ => k b o (fun z => hc (by simp [z])) e) (fun b o _ _ hc e _ => ⟨o.slots, k b o (fun z => hc (by simp [z])) e⟩) (fun _ _ _ _ n => n)
    (fun b o hc e => ⟨o, k b o (fun z => hc (by simp [z])) e⟩) (fun _ _ e => e) (fun _ _ _ e => e) (fun b ps e => ⟨#[], by rw [e]; simp⟩) (fun m hm => ?_) (fun b u e => ?_) I.bare
  · have e : b = it := by simpa using hb
    subst e
    exact ⟨h1, hL, h2, h3⟩
  · obtain ⟨o, es, ep, ho, r⟩ := hm
    exact ⟨o, es, ep, k _ o (Ne.symm hL) ho, r⟩
  · refine (I.hok b u e).stay (fun c v hc q => k c v ?_ q) (fun _ q => q) fun _ _ q => q
    rcases hc with z | z
    · rw [z]; exact nit b u e
    · exact nit c _ z
theorem Inv.tok (I : Inv X pins σ H s) (t : Nat) : Inv X pins σ H { s with toks := t } := I.un (h' := s.heap) (t' := t) Un.refl I.hok
theorem Inv.kept {t' : Nat} (I : Inv X pins σ H s) (k : ∀ b u, s.heap.get? b = some u → h'.get? b = some u) : Inv X pins σ H { s with heap := h', toks := t' } := I.un (Un.kept k) (I.hok.kept k)
theorem Inv.laid {a : Addr} {o : HO} {t' : Nat} (I : Inv X pins σ H s) (k : ∀ b u, s.heap.get? b = some u → h'.get? b = some u) (hp : s.heap.objs.size ≤ a) (new : ObjOk X.prog X.w (upd H a o) h' a o) :
    Inv X pins σ (upd H a o) { s with heap := h', toks := t' } := I.un (Un.laid k hp (I.hok.fresh hp)) (I.hok.laid k hp new)
theorem Inv.write {x e : Addr} {o : HO} {t' : Nat} (I : Inv X pins σ H s) (mu : Mut (H x)) (he : e = x ∨ H e = some (.own x)) (k : ∀ b u, b ≠ e → s.heap.get? b = some u → h'.get? b = some u) (heo : ∃ u, h'.get? e = some u)
    (new : ObjOk X.prog X.w (upd H x o) h' x o) : Inv X pins σ (upd H x o) { s with heap := h', toks := t' } := I.un (Un.write mu he k heo) (I.hok.write mu he k heo new)
theorem Inv.pins_of {pins' : List (Addr × Obj)} (I : Inv X pins σ H s) (h : ∀ p ∈ pins', s.heap.get? p.1 = some p.2 ∧ H p.1 = none ∧ p.1 ≠ X.env.locals ∧ p.1 ∉ X.fs ∧ ∀ v, p.2.data ≠ .cell v) : Inv X pins' σ H s :=
  ⟨I.ok, I.os, I.bare, I.base, I.loc, I.cell, I.free, I.freeC, fun p hp => (List.mem_append.mp hp).elim (fun z => I.pin p (List.mem_append_left _ z)) (h p), I.hok, I.len⟩
theorem nodup_ix {N : List Str} (hN : N.Nodup) {i j : Nat} {x : Str} (a : N[i]? = some x) (b : N[j]? = some x) : i = j := by
  obtain ⟨h1, e1⟩ := List.getElem?_eq_some_iff.mp a
  obtain ⟨h2, e2⟩ := List.getElem?_eq_some_iff.mp b
  exact (List.getElem_inj hN).mp (e1.trans e2.symm)
theorem store_ok2 {M : Model} {A : Around} {E : Value → Shared → Prop} {i : Nat} {x : Str} {v : V} {u : Value} {Q : Unit → Shared → Prop} (I : Inv X pins σ H s) (hN : X.N.Nodup) (hi : X.N[i]? = some x) (hx : Loc X.env.scope x) (r : RelV v u)
    (h : ∀ s', Inv X pins (σ.set i (some v)) H s' → (∃ a, Heap.SameBut a s.heap s'.heap ∧ (a = X.env.locals ∨ X.env.cells.lookup x = some a)) → Q () s') (hf : X.fn x = true ∨ X.env.scope.names.lookup x = some .local := by first | exact .inl rfl | exact .inr rfl | assumption) : wpAny M A (storeName X.env x u) Q E s := by
  obtain ⟨m, hn, hl⟩ := id I.loc
  have hcls : (X.env.scope.kind == .class || (X.env.scope.kind == .module && X.env.locals != X.env.globals)) = false := by rw [I.ok.kind]; rfl
  have hiσ : i < σ.length := by rw [I.len]; exact (List.getElem?_eq_some_iff.mp hi).1
  have cne := I.cne
  have tracked : ∀ {a : Addr} {h' : Heap}, (∃ o, s.heap.get? a = some o ∧ H a = none) → Heap.SameBut a s.heap h' → HOk X.prog X.w H h' := fun {a h'} ha hs b ob e => by
    obtain ⟨_, _, hfree⟩ := ha
    refine (I.hok b ob e).stay (fun c w' hc q => (hs.2 c ?_).trans q) (fun _ q => q) fun _ _ q => q
    rintro rfl
    rcases hc with rfl | hc
    · rw [hfree] at e; cases e
    · rw [hfree] at hc; cases hc
  rcases hx with hk | hk
  · refine wpAny_storeName_local hk hn (fun h' hn' hs => ?_) hcls
    obtain ⟨oL, _, _, hoL, _⟩ := id hn
    refine h _ ⟨I.ok, I.os, I.bare, ⟨fun b o e n hb hx => ?_, fun b o e n hb hx => ?_, I.base.free, fun b o e hx => ?_, I.base.tups, I.base.frzs, I.base.tbls⟩, ⟨_, hn', fun j y v' e1 e2 e3 => ?_⟩, fun y c e => ?_, I.free, I.freeC, fun p hp => ?_, tracked ⟨oL, hoL, I.free⟩ hs, by simpa using I.len⟩ ⟨_, hs, .inl rfl⟩
    · exact (hs.2 b (Nat.ne_of_lt (Nat.lt_of_lt_of_le (Heap.lt_size e) I.ok.above))).trans (I.base.keep b o e n hb hx)
    · obtain ⟨sl, e1⟩ := I.base.slot b o e n hb hx
      exact ⟨sl, (hs.2 b (Nat.ne_of_lt (Nat.lt_of_lt_of_le (Heap.lt_size e) I.ok.above))).trans e1⟩
    · obtain ⟨o', e1⟩ := I.base.there b o e hx
      exact ⟨o', (hs.2 b (Nat.ne_of_lt (Nat.lt_of_lt_of_le (Heap.lt_size e) I.ok.above))).trans e1⟩
    · by_cases hj : j = i
      · subst hj
        rw [hi] at e1; cases e1
        rw [List.getElem?_set_self hiσ] at e2
        cases e2
        exact ⟨u, r, .inl ⟨hk, by simp⟩⟩
      · rw [List.getElem?_set_ne (Ne.symm hj)] at e2
        obtain ⟨u', r', q⟩ := hl j y v' e1 e2 e3
        refine ⟨u', r', ?_⟩
        rcases q with ⟨k, e⟩ | ⟨k, c, e, z⟩
        · refine .inl ⟨k, ?_⟩
          have : y ≠ x := fun e => hj (nodup_ix hN e1 (e ▸ hi))
          simp [this, e]
        · exact .inr ⟨k, c, e, z.sameBut hs (cne y c e)⟩
    · obtain ⟨w', z⟩ := I.cell y c e
      exact ⟨w', z.sameBut hs (cne y c e)⟩
    · obtain ⟨e, n, ne, nf, d⟩ := I.pin p hp
      exact ⟨(hs.2 p.1 ne).trans e, n, ne, nf, d⟩
  · have hfn : X.fn x = true := by
      rcases hf with z | z
      · exact z
      · rw [z] at hk; cases hk
    obtain ⟨c, hc⟩ := I.ok.has x (.inl hk)
    obtain ⟨w', z⟩ := I.cell x c hc
    refine wpAny_storeName_cell I.ok.kind hk hc z (fun h' hc' hs => ?_)
    obtain ⟨oc, hoc, hocd⟩ := id z
    refine h { s with heap := h' } ⟨I.ok, I.os, I.bare, ⟨fun b o e n hb hx => ?_, fun b o e n hb hx => ?_, I.base.free, fun b o e hx => ?_, I.base.tups, I.base.frzs, I.base.tbls⟩, ⟨m, hn.sameBut hs (Ne.symm (cne x c hc)), fun j y v' e1 e2 e3 => ?_⟩, fun y c' e => ?_, I.free, I.freeC, fun p hp => ?_, tracked ⟨oc, hoc, I.freeC x c hc⟩ hs, by simpa using I.len⟩ ⟨c, hs, .inr hc⟩
    · exact (hs.2 b (Nat.ne_of_lt (Nat.lt_of_lt_of_le (Heap.lt_size e) (I.ok.cab x c hfn hc)))).trans (I.base.keep b o e n hb hx)
    · obtain ⟨sl, e1⟩ := I.base.slot b o e n hb hx
      exact ⟨sl, (hs.2 b (Nat.ne_of_lt (Nat.lt_of_lt_of_le (Heap.lt_size e) (I.ok.cab x c hfn hc)))).trans e1⟩
    · obtain ⟨o', e1⟩ := I.base.there b o e hx
      exact ⟨o', (hs.2 b (Nat.ne_of_lt (Nat.lt_of_lt_of_le (Heap.lt_size e) (I.ok.cab x c hfn hc)))).trans e1⟩
    · by_cases hj : j = i
      · subst hj
        rw [hi] at e1; cases e1
        rw [List.getElem?_set_self hiσ] at e2
        cases e2
        exact ⟨u, r, .inr ⟨.inl hk, c, hc, hc'⟩⟩
      · rw [List.getElem?_set_ne (Ne.symm hj)] at e2
        obtain ⟨u', r', q⟩ := hl j y v' e1 e2 e3
        refine ⟨u', r', ?_⟩
        rcases q with q | ⟨k, c', e, z'⟩
        · exact .inl q
        · refine .inr ⟨k, c', e, z'.sameBut hs ?_⟩
          rintro rfl
          exact hj (nodup_ix hN e1 (I.ok.inj _ _ _ e hc ▸ hi))
    · by_cases hcc : c' = c
      · subst hcc; exact ⟨_, hc'⟩
      · obtain ⟨w2, z2⟩ := I.cell y c' e
        exact ⟨w2, z2.sameBut hs hcc⟩
    · obtain ⟨e, n, ne, nf, d⟩ := I.pin p hp
      refine ⟨(hs.2 p.1 ?_).trans e, n, ne, nf, d⟩
      intro q
      rw [q, hoc] at e
      have q' : oc = p.2 := Option.some.inj e
      exact d w' (by rw [← q']; exact hocd)
theorem store_ok {M : Model} {A : Around} {E : Value → Shared → Prop} {i : Nat} {x : Str} {v : V} {u : Value} {Q : Unit → Shared → Prop} (I : Inv X pins σ H s) (hN : X.N.Nodup) (hi : X.N[i]? = some x) (hx : Loc X.env.scope x) (r : RelV v u)
    (h : ∀ s', Inv X pins (σ.set i (some v)) H s' → Q () s') (hf : X.fn x = true ∨ X.env.scope.names.lookup x = some .local := by first | exact .inl rfl | exact .inr rfl | assumption) : wpAny M A (storeName X.env x u) Q E s :=
  store_ok2 I hN hi hx r (fun s' I' _ => h s' I') hf
theorem Inv.call' {s' : Shared} {ch : List Addr} (I : Inv X pins σ H s) (ho : s'.os = s.os) (u : Un (frs X.stack) ch H H' s.heap s'.heap) (hok : HOk X.prog X.w H' s'.heap) (hg : AllBare s'.gens)
    (hch : ∀ b ∈ ch, (b ∈ X.ex ∨ X.s₀.heap.objs.size ≤ b) ∧ b ≠ X.env.locals ∧ (∀ x c, X.env.cells.lookup x = some c → c ≠ b) ∧ ∀ p ∈ X.pn ++ pins, p.1 ≠ b) : Inv X pins σ H' s' := by
  obtain ⟨h', g', d', t', o'⟩ := s'
  have e : o' = s.os := ho
  subst e
  exact I.call (g' := g') (t' := t') (d' := d') u hok hg hch
end
abbrev XK := Value → Option Addr → Hp → Prop
abbrev St := List (Option V)
abbrev VK := V → Hp → Prop
abbrev TE := St → Hp → VK → Prop
abbrev TT := St → Hp → (Bool → Hp → Prop) → Prop
abbrev TA := St → Hp → (List V → Hp → Prop) → Prop
structure Ends where
  nx : St → Hp → Prop
  rt : VK
  bk : St → Hp → Prop := fun _ _ => False
  ct : St → Hp → Prop := fun _ _ => False
abbrev TS := Ends → St → Hp → Prop
def EP (X : Cx) (pins : List (Addr × Obj)) (σ : St) (Q : VK) (u : Value) (s' : Shared) : Prop := ∃ v H', Inv X pins σ H' s' ∧ RelV v u ∧ Q v H'
def TP (X : Cx) (pins : List (Addr × Obj)) (σ : St) (Q : Bool → Hp → Prop) (b : Bool) (s' : Shared) : Prop := ∃ H', Inv X pins σ H' s' ∧ Q b H'
def AP (X : Cx) (pins : List (Addr × Obj)) (σ : St) (Q : List V → Hp → Prop) (us : List Value) (s' : Shared) : Prop := ∃ vs H', Inv X pins σ H' s' ∧ Vals vs us ∧ Q vs H'
def SP (X : Cx) (pins : List (Addr × Obj)) (D : Ends) (f : Flow) (s' : Shared) : Prop :=
  match f with
  | .next => ∃ σ' H', Inv X pins σ' H' s' ∧ D.nx σ' H'
  | .brk => ∃ σ' H', Inv X pins σ' H' s' ∧ D.bk σ' H'
  | .cont => ∃ σ' H', Inv X pins σ' H' s' ∧ D.ct σ' H'
  | .ret u => ∃ v σ' H', Inv X pins σ' H' s' ∧ RelV v u ∧ D.rt v H'
def PE (X : Cx) (e : Expr) (t : TE) : Prop :=
  ∀ (pins : List (Addr × Obj)) (s : Shared) (σ : St) (H : Hp) (Q : VK), Inv X pins σ H s → t σ H Q → wpAny (model X.prog X.w) X.A (eval e X.env) (EP X pins σ Q) X.xe s
def PT (X : Cx) (e : Expr) (t : TT) : Prop :=
  ∀ (pins : List (Addr × Obj)) (s : Shared) (σ : St) (H : Hp) (Q : Bool → Hp → Prop), Inv X pins σ H s → t σ H Q → wpAny (model X.prog X.w) X.A (isTrue e X.env (eval e X.env)) (TP X pins σ Q) X.xe s
def PW (X : Cx) (e : Expr) (t : TT) : Prop :=
  ∀ (whole : Sem Value) (pins : List (Addr × Obj)) (s : Shared) (σ : St) (H : Hp) (Q : Bool → Hp → Prop), Inv X pins σ H s → t σ H Q → wpAny (model X.prog X.w) X.A (isTrue e X.env whole) (TP X pins σ Q) X.xe s
theorem PW.pt {X : Cx} {e : Expr} {t : TT} (h : PW X e t) : PT X e t := h _
def PA (X : Cx) (es : List Expr) (t : TA) : Prop :=
  ∀ (pos : Pos) (pins : List (Addr × Obj)) (s : Shared) (σ : St) (H : Hp) (Q : List V → Hp → Prop), Inv X pins σ H s → t σ H Q → wpAny (model X.prog X.w) X.A (spliced (backTo pos (starEach es X.env))) (AP X pins σ Q) X.xe s
def PS (X : Cx) (st : Stmt) (t : TS) : Prop :=
  ∀ (pins : List (Addr × Obj)) (s : Shared) (σ : St) (H : Hp) (D : Ends), Inv X pins σ H s → t D σ H → wpAny (model X.prog X.w) X.A (exec st X.env) (SP X pins D) X.xe s
def PSs (X : Cx) (st : List Stmt) (t : TS) : Prop :=
  ∀ (pins : List (Addr × Obj)) (s : Shared) (σ : St) (H : Hp) (D : Ends), Inv X pins σ H s → t D σ H → wpAny (model X.prog X.w) X.A (execs st X.env) (SP X pins D) X.xe s
theorem thn {α : Type} {t : Sem α} {Q Q' : α → Shared → Prop} {M : Model} {A : Around} {E : Value → Shared → Prop} {s : Shared} (h : wpAny M A t Q E s) (hQ : ∀ a s, Q a s → Q' a s) : wpAny M A t Q' E s := wpAny_mono h hQ fun _ _ x => x
end L2
namespace L2
open PySem PySem.Spec PyProof.Rows
section
variable {X : Cx}
def tVar (i : Nat) : TE := fun σ H Q => ∃ v, σ[i]? = some (some v) ∧ Q v H
def tC (v : V) : TE := fun _ H Q => Q v H
theorem pe_var {i : Nat} {x : Str} {pos : Pos} (hN : X.N[i]? = some x) (hv : Vis X.env.scope x) (hd : (x == ("__debug__" : Str)) = false := by decide) (hcd : (x == ("__classdict__" : Str)) = false := by decide) : PE X (.Name x pos) (tVar i) := by
  intro pins s σ H Q I h
  obtain ⟨v, e, h⟩ := h
  obtain ⟨m, hn, hl⟩ := I.loc
  obtain ⟨u, r, l⟩ := hl i x v hN e hv
  have fin : EP X pins σ Q u s := ⟨v, H, I, r, h⟩
  rcases l with ⟨hk, hm⟩ | ⟨hk, c, hc, hcell⟩
  · exact wpAny_Name (wpAny_loadName_local I.ok.kind hk hn hm fin) hd
  · rcases hk with hk | hk
    · exact wpAny_Name (wpAny_loadName_cell I.ok.kind hk hc hcell fin) hd
    · exact wpAny_Name (wpAny_loadName_free I.ok.kind hk hc hcell fin hcd) hd
theorem pe_int {i j pos} : PE X (.Constant (.int i) j pos) (tC (.int i)) := fun _ _ _ H _ I h => wpAny_Constant_int ⟨.int i, H, I.tok _, ⟨_, rfl⟩, h⟩
theorem pe_bl {b j pos} : PE X (.Constant (.bool b) j pos) (tC (.bl b)) := fun _ _ _ H _ I h => Constant_bool ⟨.bl b, H, I, rfl, h⟩
theorem pe_non {j pos} : PE X (.Constant .none j pos) (tC .non) := fun _ _ _ H _ I h => Constant_none ⟨.non, H, I, rfl, h⟩
theorem pe_str {x j pos} : PE X (.Constant (.str x) j pos) (tC (.str x)) := fun _ _ _ H _ I h => Calls.Constant_str ⟨.str x, H, I.tok _, ⟨_, rfl⟩, h⟩
def Gl (X : Cx) (x : Str) : Prop := X.env.kindOf x = some .globalImplicit
theorem ld_glob {E : Value → Shared → Prop} {pins : List (Addr × Obj)} {s : Shared} {σ : St} {H : Hp} {x : Str} {u : Value} {pos : Pos} {Q : Value → Shared → Prop} (I : Inv X pins σ H s) (hg : Gl X x) (hm : X.mg x = some u) (h : Q u s)
    (hd : (x == ("__debug__" : Str)) = false := by decide) : wpAny (model X.prog X.w) X.A (eval (.Name x pos) X.env) Q E s :=
  Calls.Name_function_global I.ok.kind hg (Calls.loadGlobal_global (by rw [I.ok.glob]; exact I.mod.glob.keeps I.bk) hm h) hd
theorem ld_blt {E : Value → Shared → Prop} {pins : List (Addr × Obj)} {s : Shared} {σ : St} {H : Hp} {x : Str} {u : Value} {pos : Pos} {Q : Value → Shared → Prop} (I : Inv X pins σ H s) (hg : Gl X x) (hm : X.mg x = none) (hv : bootBuiltins x = some u) (h : Q u s)
    (hn : x ≠ "__name__" := by decide) (hd : (x == ("__debug__" : Str)) = false := by decide) : wpAny (model X.prog X.w) X.A (eval (.Name x pos) X.env) Q E s := by
  obtain ⟨mb, h1, h2⟩ := I.mod.blt
  exact Calls.Name_function_global I.ok.kind hg (Calls.loadGlobal_builtin (by rw [I.ok.glob]; exact I.mod.glob.keeps I.bk) hm (by rw [I.ok.blt]; exact h1.keeps I.bk) ((h2 x hn).trans hv) h) hd
theorem pe_glob {x : Str} {v : V} {u : Value} {pos : Pos} (hg : Gl X x) (hm : X.mg x = some u) (r : RelV v u) (hd : (x == ("__debug__" : Str)) = false := by decide) : PE X (.Name x pos) (tC v) :=
  fun _ _ _ H _ I h => ld_glob I hg hm ⟨v, H, I, r, h⟩ hd
theorem pe_bltn {x : Str} {v : V} {u : Value} {pos : Pos} (hg : Gl X x) (hm : X.mg x = none) (hv : bootBuiltins x = some u) (r : RelV v u) (hn : x ≠ "__name__" := by decide) (hd : (x == ("__debug__" : Str)) = false := by decide) : PE X (.Name x pos) (tC v) :=
  fun _ _ _ H _ I h => ld_blt I hg hm hv ⟨v, H, I, r, h⟩ hn hd
variable {a b : Expr} {ta tb : TE} {pos : Pos}
def tB (t : TE) : TT := fun σ H Q => t σ H fun x H1 => ∃ c, x = .bl c ∧ Q c H1
theorem pt_val {e : Expr} {t : TE} (h : PE X e t) (he : ∀ whole, isTrue e X.env whole = (do let v ← whole; standAt e.pos; holding [v] (truthy v)) := by intro _; rfl) : PT X e (tB t) := by
  intro pins s σ H Q I hw
  refine isTrue_plain (thn (h pins s σ H _ I hw) fun v s1 ⟨x, H1, I1, r1, q1⟩ => ?_) (he _)
  obtain ⟨d, rfl, q⟩ := q1
  cases r1
  exact wpAny_truthy_bool ⟨H1, I1, q⟩
variable {tA tB' : TT} {rest : List Expr}
def tAnd (t u : TT) : TT := fun σ H Q => t σ H fun c H1 => if c = true then u σ H1 Q else Q false H1
def tOr (t u : TT) : TT := fun σ H Q => t σ H fun c H1 => if c = true then Q true H1 else u σ H1 Q
def tNot (t : TT) : TT := fun σ H Q => t σ H fun c H1 => Q (!c) H1
theorem pw_and1 (ha : PT X a tA) : PW X (.BoolOp .And [a] pos) tA := by
  intro wh pins s σ H Q I h
  refine isTrue_and (thn (ha pins s σ H Q I h) fun c s1 e => ?_)
  cases c with
  | true => exact isTrue_and_nil e
  | false => exact e
theorem pw_or1 (ha : PT X a tA) : PW X (.BoolOp .Or [a] pos) tA := by
  intro wh pins s σ H Q I h
  refine isTrue_or (thn (ha pins s σ H Q I h) fun c s1 e => ?_)
  cases c with
  | false => exact isTrue_or_nil e
  | true => exact e
theorem pw_and (ha : PT X a tA) (hb : PW X (.BoolOp .And (b :: rest) pos) tB') : PW X (.BoolOp .And (a :: b :: rest) pos) (tAnd tA tB') := by
  intro wh pins s σ H Q I h
  refine isTrue_and (thn (ha pins s σ H _ I h) fun c s1 ⟨H1, I1, q1⟩ => ?_)
  cases c with
  | true => exact hb wh pins s1 σ H1 Q I1 q1
  | false => exact ⟨H1, I1, q1⟩
theorem pw_or (ha : PT X a tA) (hb : PW X (.BoolOp .Or (b :: rest) pos) tB') : PW X (.BoolOp .Or (a :: b :: rest) pos) (tOr tA tB') := by
  intro wh pins s σ H Q I h
  refine isTrue_or (thn (ha pins s σ H _ I h) fun c s1 ⟨H1, I1, q1⟩ => ?_)
  cases c with
  | true => exact ⟨H1, I1, q1⟩
  | false => exact hb wh pins s1 σ H1 Q I1 q1
theorem pt_not (ha : PT X a tA) : PT X (.UnaryOp .Not a pos) (tNot tA) := by
  intro pins s σ H Q I h
  exact isTrue_not (ha pins s σ H (fun c H1 => Q (!c) H1) I h)
def tAndV (ta tb : TE) : TE := fun σ H Q => ta σ H fun x H1 => ∃ c, x = .bl c ∧ if c = true then tb σ H1 Q else Q (.bl false) H1
def tNotV (ta : TE) : TE := fun σ H Q => ta σ H fun x H1 => ∃ c, x = .bl c ∧ Q (.bl (!c)) H1
theorem pe_one {op} {t : TE} (h : PE X a t) : PE X (.BoolOp op [a] pos) t := fun pins s σ H Q I hw => BoolOp_one (h pins s σ H Q I hw)
theorem pe_and (ha : PE X a ta) (hb : PE X (.BoolOp .And (b :: rest) pos) tb) : PE X (.BoolOp .And (a :: b :: rest) pos) (tAndV ta tb) := by
  intro pins s σ H Q I h
  refine BoolOp_and (thn (ha pins s σ H _ I h) fun v s1 ⟨x, H1, I1, r1, q1⟩ => ?_)
  obtain ⟨c, rfl, q1⟩ := q1
  cases r1
  refine wpAny_truthy_bool ?_
  cases c with
  | true => exact hb pins s1 σ H1 Q I1 q1
  | false => exact ⟨.bl false, H1, I1, rfl, q1⟩
theorem pe_not (ha : PE X a ta) : PE X (.UnaryOp .Not a pos) (tNotV ta) := by
  intro pins s σ H Q I h
  refine UnaryOp_ (thn (ha pins s σ H _ I h) fun v s1 ⟨x, H1, I1, r1, q1⟩ => ?_)
  obtain ⟨c, rfl, q1⟩ := q1
  cases r1
  exact not_of (wpAny_truthy_bool ⟨.bl (!c), H1, I1, rfl, q1⟩)
end
end L2
namespace L2
open PySem PySem.Spec PyProof.Rows
def SqL (K : PySem.W.Frag) (H : Hp) (a : Addr) (xs : List V) : Prop :=
  Rd H a (.lst xs) ∨
    ∃ (o : Obj) (its : Array Value) (n : Nat), K.lookup a = some o ∧ o.cls = .type "list" ∧ o.dict = none ∧ o.data = .seq its n ∧ its.size ≤ sizeLine ∧ Vals xs its.toList
def SqT (K : PySem.W.Frag) (H : Hp) (a : Addr) (xs : List V) : Prop :=
  Rd H a (.tup xs) ∨
    ∃ (o : Obj) (its : Array Value) (n : Nat), K.lookup a = some o ∧ o.cls = .type "tuple" ∧ o.data = .seq its n ∧ its.size ≤ sizeLine ∧ Vals xs its.toList
def absV : Value → Option V
  | .none => some .non
  | .bool b => some (.bl b)
  | .int i _ => some (.int i)
  | .str x _ => some (.str x)
  | .bytes b _ => some (.byt b)
  | .float b _ => some (.flt b)
  | .ref a => some (.ref a)
  | .type n => some (.ty n)
  | _ => none
theorem RelV.abs {x : V} {u : Value} (r : RelV x u) : absV u = some x := by
  cases x with
  | non => cases r; rfl
  | bl _ => cases r; rfl
  | int _ => obtain ⟨t, rfl⟩ := r; rfl
  | str _ => obtain ⟨t, rfl⟩ := r; rfl
  | byt _ => obtain ⟨t, rfl⟩ := r; rfl
  | flt _ => obtain ⟨t, rfl⟩ := r; rfl
  | ref _ => cases r; rfl
  | ty _ => cases r; rfl
theorem RelV.inj {x y : V} {u : Value} (r : RelV x u) (q : RelV y u) : x = y := Option.some.inj (r.abs.symm.trans q.abs)
theorem Vals.inj : ∀ {xs ys : List V} {us : List Value}, Vals xs us → Vals ys us → xs = ys
  | _, _, _, .nil, .nil => rfl
  | _, _, _, .cons r t, .cons r' t' => by rw [r.inj r', Vals.inj t t']
section
variable {X : Cx} {pins : List (Addr × Obj)} {σ : St} {H : Hp} {s : Shared} {a : Addr} {xs ys : List V}
theorem SqL.of {K : PySem.W.Frag} (h : H a = some (.lst xs)) : SqL K H a xs := .inl (.inl h)
theorem SqT.of {K : PySem.W.Frag} (h : H a = some (.tup xs)) : SqT K H a xs := .inl (.inl h)
theorem Inv.list (I : Inv X pins σ H s) (h : SqL X.K H a xs) : ∃ its : List Value, Vals xs its ∧ PlainL s.heap a its.toArray ∧ xs.length ≤ sizeLine := by
  rcases h with h | ⟨o, its, n, hk, hc, hd, hs, hz, r⟩
  · obtain ⟨z, its, n, r, e⟩ := h.ok I.hok
    exact ⟨its, r, ⟨_, n, e, rfl, rfl, rfl⟩, z⟩
  · refine ⟨its.toList, r, ⟨o, n, I.kIn a o hk, hc, hd, by simpa using hs⟩, ?_⟩
    have e := r.length
    simp only [Array.length_toList] at e
    omega
theorem Inv.tuple (I : Inv X pins σ H s) (h : SqT X.K H a xs) : ∃ its : List Value, Vals xs its ∧ IsTup s.heap a its.toArray ∧ xs.length ≤ sizeLine := by
  rcases h with h | ⟨o, its, n, hk, hc, hs, hz, r⟩
  · obtain ⟨z, its, r, p⟩ := h.ok I.hok
    exact ⟨its, r, p, z⟩
  · refine ⟨its.toList, r, ⟨o, I.kIn a o hk, hc, n, by simpa using hs⟩, ?_⟩
    have e := r.length
    simp only [Array.length_toList] at e
    omega
theorem Inv.list_inj (I : Inv X pins σ H s) (h : SqL X.K H a xs) (h' : SqL X.K H a ys) : xs = ys := by
  obtain ⟨its, r, ⟨o, n, e, _, _, d⟩, _⟩ := I.list h
  obtain ⟨its', r', ⟨o', n', e', _, _, d'⟩, _⟩ := I.list h'
  rw [e] at e'; cases e'
  rw [d] at d'
  injection d' with d1 _
  have : its = its' := by simpa using congrArg Array.toList d1
  subst this
  exact r.inj r'
end
section
variable {X : Cx} {pins : List (Addr × Obj)} {σ : St} {H : Hp} {s : Shared} {E : Value → Shared → Prop}
end
section
variable {X : Cx} {st : Stmt} {rest : List Stmt} {t u : TS} {e : Expr} {te : TE} {pos : Pos}
def tNext : TS := fun D σ H => D.nx σ H
def tSeq (t u : TS) : TS := fun D σ H => t { D with nx := u D } σ H
theorem pss_nil : PSs X [] tNext := fun _ _ σ H _ I h => wpAny_execs_nil ⟨σ, H, I, h⟩
theorem pss_cons (h1 : PS X st t) (h2 : PSs X rest u) : PSs X (st :: rest) (tSeq t u) := by
  intro pins s σ H D I h
  refine wpAny_execs_cons (thn (h1 pins s σ H { D with nx := u D } I h) fun f s1 q => ?_)
  cases f with
  | next =>
    obtain ⟨σ', H', I', q⟩ := q
    exact h2 pins s1 σ' H' D I' q
  | ret v => exact q
  | brk => exact q
  | cont => exact q
theorem pss_one (h1 : PS X st t) : PSs X [st] t := by
  intro pins s σ H D I h
  refine wpAny_execs_cons (thn (h1 pins s σ H D I h) fun f s1 q => ?_)
  cases f with
  | next => exact wpAny_execs_nil q
  | ret v => exact q
  | brk => exact q
  | cont => exact q
def tRet (te : TE) : TS := fun D σ H => te σ H D.rt
theorem ps_ret (he : PE X e te) : PS X (.Return (some e) pos) (tRet te) := by
  intro pins s σ H D I h
  exact wpAny_Return_some (thn (he pins s σ H _ I h) fun v s1 ⟨x, H1, I1, r1, q1⟩ => ⟨x, σ, H1, I1, r1, q1⟩)
def tIfS (c : TT) (t u : TS) : TS := fun D σ H => c σ H fun b H1 => if b = true then t D σ H1 else u D σ H1
theorem ps_if {c : Expr} {a b : List Stmt} {tc : TT} (hc : PT X c tc) (ha : PSs X a t) (hb : PSs X b u) : PS X (.If c a b pos) (tIfS tc t u) := by
  intro pins s σ H D I h
  refine wpAny_If (thn (hc pins s σ H _ I h) fun d s1 ⟨H1, I1, q1⟩ => ?_)
  cases d with
  | true => exact ha pins s1 σ H1 D I1 q1
  | false => exact hb pins s1 σ H1 D I1 q1
end
abbrev TG := V → St → Hp → (St → Hp → Prop) → Prop
abbrev TGs := List V → St → Hp → (St → Hp → Prop) → Prop
def PG (X : Cx) (target : Expr) (t : TG) : Prop :=
  ∀ (pins : List (Addr × Obj)) (s : Shared) (σ : St) (H : Hp) (v : V) (u : Value) (Q : St → Hp → Prop), Inv X pins σ H s → RelV v u → t v σ H Q →
    wpAny (model X.prog X.w) X.A (assign target X.env u) (fun _ s' => ∃ σ' H', Inv X pins σ' H' s' ∧ Q σ' H') X.xe s
def PGs (X : Cx) (ts : List Expr) (t : TGs) : Prop :=
  ∀ (pins : List (Addr × Obj)) (s : Shared) (σ : St) (H : Hp) (vs : List V) (us : List Value) (Q : St → Hp → Prop), Inv X pins σ H s → Vals vs us → t vs σ H Q →
    wpAny (model X.prog X.w) X.A (assignInOrder ((assignEach ts X.env).map (·.2)) us) (fun _ s' => ∃ σ' H', Inv X pins σ' H' s' ∧ Q σ' H') X.xe s
section
variable {X : Cx} {pos : Pos}
def gName (i : Nat) : TG := fun v σ H Q => Q (σ.set i (some v)) H
theorem pg_name {i : Nat} {x : Str} (hN : X.N.Nodup) (hi : X.N[i]? = some x) (hx : Loc X.env.scope x) (hf : X.fn x = true ∨ X.env.scope.names.lookup x = some .local := by first | exact .inl rfl | exact .inr rfl | assumption) : PG X (.Name x pos) (gName i) := by
  intro pins s σ H v u Q I r h
  exact wpAny_assign_Name (store_ok I hN hi hx r (fun s' I' => ⟨_, H, I', h⟩) hf)
def gNil : TGs := fun vs σ H Q => vs = [] ∧ Q σ H
def gCons (t : TG) (u : TGs) : TGs := fun vs σ H Q => ∃ v r, vs = v :: r ∧ t v σ H fun σ' H' => u r σ' H' Q
theorem pgs_nil : PGs X [] gNil := by
  intro pins s σ H vs us Q I r h
  obtain ⟨e, h⟩ := h
  subst e
  cases r
  exact assignInOrder_nil ⟨σ, H, I, h⟩
theorem pgs_cons {e : Expr} {es : List Expr} {t : TG} {u : TGs} (h1 : PG X e t) (h2 : PGs X es u)
    (hs : (assignEach (e :: es) X.env).map (·.2) = assign e X.env :: (assignEach es X.env).map (·.2) := by rfl) : PGs X (e :: es) (gCons t u) := by
  intro pins s σ H vs us Q I r h
  obtain ⟨v, vr, e1, h⟩ := h
  subst e1
  cases r with
  | cons r rr =>
    rw [hs]
    refine assignInOrder_cons (thn (h1 pins s σ H _ _ _ I r h) fun _ s1 ⟨σ1, H1, I1, q1⟩ => ?_)
    exact h2 pins s1 σ1 H1 _ _ Q I1 rr q1
def gTup (K : PySem.W.Frag) (n : Nat) (t : TGs) : TG := fun v σ H Q => ∃ a xs, v = .ref a ∧ SqT K H a xs ∧ xs.length = n ∧ t xs σ H Q
theorem pg_tup {es : List Expr} {k : Nat} {t : TGs} {n : Nat} (hc : X.calm = true) (h : PGs X es t)
    (hn : (assignEach es X.env).length = n := by rfl) (hst : (assignEach es X.env).findIdx? (·.1) = none := by rfl) : PG X (.Tuple es k pos) (gTup X.K n t) := by
  intro pins s σ H v u Q I r hw
  obtain ⟨a, xs, e1, hq, hl, hw⟩ := hw
  subst e1
  cases r
  obtain ⟨its, rv, ht, hz⟩ := I.tuple hq
  refine assign_Tuple_tuple (I.ok.hd hc) ht (by simp [hn, ← hl, rv.length]) hst fun h' hx => ?_
  have I1 : Inv X pins σ H { s with heap := h' } := I.kept (t' := s.toks) fun b o e => hx b o (Nat.ne_of_lt (Heap.lt_size e)) e
  exact h pins _ σ H xs _ Q I1 (by simpa using rv) hw
def tAsg (te : TE) (g : TG) : TS := fun D σ H => te σ H fun x H1 => g x σ H1 D.nx
theorem ps_asg {tg e : Expr} {te : TE} {g : TG} (he : PE X e te) (hg : PG X tg g) (hs : swapsWithSole [tg] e pos.line X.env = pure false := by rfl) (hw : swappedStores [tg] e X.env = pure none := by rfl)
    (h1 : (assignEach [tg] X.env).map (·.2) = [assign tg X.env] := by rfl) : PS X (.Assign [tg] e pos) (tAsg te g) := by
  intro pins s σ H D I h
  refine wpAny_Assign_stores (thn (he pins s σ H _ I h) fun v s1 ⟨x, H1, I1, r1, q1⟩ => ?_) hs hw
  rw [h1]
  exact thn (hg pins s1 σ H1 x v _ I1 r1 q1) fun _ s2 q => q
theorem ps_set {i : Nat} {x : Str} {e : Expr} {te : TE} {pos' : Pos} (hN : X.N.Nodup) (hi : X.N[i]? = some x) (hx : Loc X.env.scope x) (he : PE X e te) (hs : swapsWith e (some (.Name x pos')) pos.line X.env = pure false := by rfl) (hf : X.fn x = true ∨ X.env.scope.names.lookup x = some .local := by first | exact .inl rfl | exact .inr rfl | assumption) :
    PS X (.Assign [.Name x pos'] e pos) (tAsg te (gName i)) := by
  intro pins s σ H D I h
  refine wpAny_Assign_Name (thn (he pins s σ H _ I h) fun v s1 ⟨y, H1, I1, r1, q1⟩ => ?_) hs
  exact store_ok I1 hN hi hx r1 (fun s2 I2 => ⟨_, H1, I2, q1⟩) hf
end
section
variable {X : Cx} {pos : Pos}
def tWhile (c : TT) (tb : TS) : TS := fun D σ H => ∃ W : Nat → St → Hp → Prop, (∃ m, W m σ H) ∧ ∀ m σ H, W m σ H →
  c σ H fun b H1 => if b = true then ∃ N : St → Hp → Prop, (∀ σ' H', N σ' H' → ∃ m', m' < m ∧ W m' σ' H') ∧ tb { D with nx := N, ct := N, bk := D.nx } σ H1 else D.nx σ H1
theorem ps_while {c : Expr} {body : List Stmt} {tc : TT} {tb : TS} (hp : PassesOwn (model X.prog X.w) X.A X.env X.xe) (hc : PT X c tc) (hb : PSs X body tb) : PS X (.While c body [] pos) (tWhile tc tb) := by
  intro pins s σ H D I h
  obtain ⟨W, ⟨m0, w0⟩, turn⟩ := h
  refine wpAny_While (codeAny_whileLoop (fun n s' => ∃ σ' H', Inv X pins σ' H' s' ∧ W n σ' H') ?_ m0 ⟨σ, H, I, w0⟩)
  rintro n s1 ⟨σ1, H1, I1, w1⟩
  refine wpAny_passesOwn hp (thn (hc pins s1 σ1 H1 _ I1 (turn n σ1 H1 w1)) fun b s2 ⟨H2, I2, q2⟩ => ?_)
  cases b with
  | true =>
    obtain ⟨N, hN, q2⟩ := q2
    rw [if_pos rfl]
    refine wpAny_passesOwn hp (thn (hb pins s2 σ1 H2 _ I2 q2) fun f s3 q3 => ?_)
    cases f with
    | next =>
      obtain ⟨σ3, H3, I3, n3⟩ := q3
      obtain ⟨m', hm, w3⟩ := hN σ3 H3 n3
      exact ⟨m', hm, σ3, H3, I3, w3⟩
    | cont =>
      obtain ⟨σ3, H3, I3, n3⟩ := q3
      obtain ⟨m', hm, w3⟩ := hN σ3 H3 n3
      exact ⟨m', hm, σ3, H3, I3, w3⟩
    | brk => exact q3
    | ret v => exact q3
  | false =>
    rw [if_neg Bool.false_ne_true]
    exact wpAny_execs_nil ⟨σ1, H2, I2, q2⟩
end
structure It where
  go : Nat → Hp → Prop
  yld : Nat → Hp → V → Hp → Prop
  stop : Nat → Hp → Prop
def FpOk (X : Cx) (pins : List (Addr × Obj)) (H : Hp) (b : Addr) : Prop :=
  H b = none ∧ b ≠ X.env.locals ∧ b ∉ X.fs ∧ (b ∈ X.ex ∨ X.s₀.heap.objs.size ≤ b) ∧ (∀ x c, X.env.cells.lookup x = some c → c ≠ b) ∧ ∀ p ∈ X.pn ++ pins, p.1 ≠ b
theorem Inv.fpOk {X : Cx} {pins : List (Addr × Obj)} {σ : St} {H H' : Hp} {s : Shared} {b : Addr} (I : Inv X pins σ H s) (hb : s.heap.objs.size ≤ b) (hn : H' b = none) : FpOk X pins H' b := by
  refine ⟨hn, Nat.ne_of_gt (Nat.lt_of_lt_of_le I.lt hb), I.nofs hb, .inr (Nat.le_trans I.sz hb), fun x c e z => ?_, fun p hp z => ?_⟩
  · obtain ⟨v, q⟩ := I.cell x c e
    exact absurd (Nat.lt_of_lt_of_le q.lt (by rw [z]; exact hb)) (Nat.lt_irrefl _)
  · exact absurd (Nat.lt_of_lt_of_le (Heap.lt_size (I.pin p hp).1) (by rw [z]; exact hb)) (Nat.lt_irrefl _)
structure Turn (P : Program) (w : World) (K : PySem.W.Frag) (tg : Expr) (J : It) (fp : List Addr) (it : Addr) (tn : Nat → Heap → Prop) : Prop where
  mem : it ∈ fp
  obj : ∀ i h, tn i h → ∀ b ∈ fp, ∃ o, h.get? b = some o ∧ ∀ v, o.data ≠ .cell v
  keep : ∀ i h h', tn i h → (∀ b ∈ fp, ∀ o, h.get? b = some o → h'.get? b = some o) → tn i h'
  item : ∀ (X : Cx), X.prog = P → X.w = w → X.K = K → X.calm = true → ∀ (i : Nat) (pins : List (Addr × Obj)) (s : Shared) (σ : St) (H : Hp) (E : Value → Shared → Prop), Inv X pins σ H s → (∀ b ∈ fp, FpOk X pins H b) → tn i s.heap → J.go i H →
    wpAny (model P w) X.A (pyNext (.ref it)) (fun r s1 => ∃ u, r = some u ∧
      wpAny (model P w) X.A (letOwnedTupleGo tg (.ref it) u) (fun _ s2 => ∃ x H', Inv X pins σ H' s2 ∧ RelV x u ∧ J.yld i H x H' ∧ tn (i + 1) s2.heap ∧ ∀ b ∈ fp, H' b = none) E s1) E s
  done : ∀ (X : Cx), X.prog = P → X.w = w → X.K = K → X.calm = true → ∀ (i : Nat) (pins : List (Addr × Obj)) (s : Shared) (σ : St) (H : Hp) (E : Value → Shared → Prop), Inv X pins σ H s → (∀ b ∈ fp, FpOk X pins H b) → tn i s.heap → J.stop i H →
    wpAny (model P w) X.A (pyNext (.ref it)) (fun r s1 => r = none ∧ Inv X pins σ H s1) E s
  self : ∀ (A : Around) (i : Nat) (s : Shared) (Q : Value → Shared → Prop) (E : Value → Shared → Prop), tn i s.heap → Q (.ref it) s → wpAny (model P w) A (pyIter (.ref it)) Q E s
abbrev TI := St → Hp → (It → Hp → Prop) → Prop
def PIE (X : Cx) (pins : List (Addr × Obj)) (σ : St) (tg : Expr) (R : It → Hp → Prop) (itv : Value) (s2 : Shared) : Prop :=
  ∃ (it : Addr) (fp : List Addr) (tn : Nat → Heap → Prop) (J : It) (H' : Hp), itv = .ref it ∧ Inv X pins σ H' s2 ∧ Turn X.prog X.w X.K tg J fp it tn ∧ tn 0 s2.heap ∧ (∀ b ∈ fp, FpOk X pins H' b) ∧ R J H'
def PI (X : Cx) (tg iter : Expr) (wi : TI) : Prop :=
  ∀ (pins : List (Addr × Obj)) (s : Shared) (σ : St) (H : Hp) (R : It → Hp → Prop), Inv X pins σ H s → wi σ H R →
    wpAny (model X.prog X.w) X.A (eval iter X.env) (fun v s1 => wpAny (model X.prog X.w) X.A (pyIter v) (PIE X pins σ tg R) X.xe s1) X.xe s
theorem go_of {M : Model} {A : Around} {E : Value → Shared → Prop} {s : Shared} {tg : Expr} {it : Addr} {u : Value} {o : Obj} {n : String} {vs : Array Value} {Q : Unit → Shared → Prop} (ho : s.heap.get? it = some o) (hc : o.cls = .type n) (hd : o.data = .fields vs)
    (hn : ["enumerate", "zip", "dict_itemiterator", "dict_reverseitemiterator", "odict_iterator", "itertools.zip_longest", "itertools.pairwise"].contains n = false) (hQ : Q () s) : wpAny M A (letOwnedTupleGo tg (.ref it) u) Q E s := by
  unfold letOwnedTupleGo
  cases tg <;> first
    | exact wpAny_pure hQ
    | (cases u <;> first
        | exact wpAny_pure hQ
        | (refine wpAny_bind (wpAny_load ho ?_)
           rw [hc, hd]
           show wpAny M A (if (["enumerate", "zip", "dict_itemiterator", "dict_reverseitemiterator", "odict_iterator", "itertools.zip_longest", "itertools.pairwise"].contains n && vs[0]? == some (rawInt _)) = true then _ else _) Q E s
           rw [if_neg (by intro h; rw [hn, Bool.false_and] at h; cases h)]
           exact wpAny_pure hQ))
def Itl (K : PySem.W.Frag) (a : Addr) : It :=
  ⟨fun i H => ∃ xs x, SqL K H a xs ∧ xs[i]? = some x, fun i H x H' => H' = H ∧ ∀ xs, SqL K H a xs → xs[i]? = some x, fun i H => ∃ xs, SqL K H a xs ∧ xs.length ≤ i⟩
def Itr (lo : Int) (n : Nat) : It := ⟨fun i _ => i < n, fun i H x H' => H' = H ∧ x = .int (lo + i), fun i _ => n ≤ i⟩
theorem turn_list {P : Program} {w : World} {K : PySem.W.Frag} {tg : Expr} (a it : Addr) : Turn P w K tg (Itl K a) [it] it (fun i h => h.IsListIter it a i) where
  mem := by simp
  obj := fun i h st b hb => by
    have e : b = it := by simpa using hb
    subst e
    obtain ⟨o, e, c, d⟩ := st
    exact ⟨o, e, fun v z => by rw [d] at z; cases z⟩
  keep := fun i h h' st k => st.at fun o e => k it (by simp) o e
  item := by
    intro X hP hw hK hc i pins s σ H E I hf st hg
    subst hP hw hK
    obtain ⟨xs, x, hq, hx⟩ := hg
    obtain ⟨its, rv, p, hz⟩ := I.list hq
    obtain ⟨u, hu, ru⟩ := rv.get hx
    obtain ⟨f0, f1, f2, f3, f4, f5⟩ := hf it (by simp)
    refine wpAny_pyNext_list_item st p.isList (x := u) (by simpa using hu) fun h' st' sb => ?_
    have I1 : Inv X pins σ H { s with heap := h' } := I.turned (t' := s.toks) (fun b o hb e => (sb.2 b hb).trans e) f0 f1 f3 f4 f5
    obtain ⟨o, e, c, d⟩ := id st'
    exact ⟨u, rfl, go_of (s := { s with heap := h' }) e c d (by decide) ⟨x, H, I1, ru, ⟨rfl, fun ys hy => by rw [I.list_inj hy hq]; exact hx⟩, st', fun b hb => (hf b hb).1⟩⟩
  done := by
    intro X hP hw hK hc i pins s σ H E I hf st hg
    subst hP hw hK
    obtain ⟨xs, hq, hx⟩ := hg
    obtain ⟨its, rv, p, hz⟩ := I.list hq
    obtain ⟨f0, f1, f2, f3, f4, f5⟩ := hf it (by simp)
    have hl := rv.length
    exact wpAny_pyNext_list_end (I.ok.hd hc) st p.isList (by simp; omega) fun h' eb => ⟨rfl, I.turned (t' := s.toks) (fun b o hb e => eb b o hb e) f0 f1 f3 f4 f5⟩
  self := fun _ _ _ _ _ st h => wpAny_pyIter_listiter st h
theorem turn_range {P : Program} {w : World} {K : PySem.W.Frag} {tg : Expr} (it : Addr) (lo : Int) (n : Nat) : Turn P w K tg (Itr lo n) [it] it (fun i h => IsRangeIter h it (lo + (i : Nat) * 1) ((n : Int) - (i : Nat)) 1) where
  mem := by simp
  obj := fun i h st b hb => by
    have e : b = it := by simpa using hb
    subst e
    exact ⟨_, st, fun v z => by
      have z' : Data.fields _ = Data.cell v := z
      cases z'⟩
  keep := fun i h h' st k => k it (by simp) _ st
  item := by
    intro X hP hw hK hc i pins s σ H E I hf st hg
    subst hP hw hK
    obtain ⟨f0, f1, f2, f3, f4, f5⟩ := hf it (by simp)
    have W := Walks.range (prog := X.prog) (w := X.w) (I.ok.hd hc) it lo 1 n
    refine W.item i s _ _ hg st fun v h' tk hv st' kk => ?_
    obtain ⟨t, rfl⟩ := hv
    have I1 : Inv X pins σ H { s with heap := h', toks := tk } := I.turned (fun b o hb e => kk b o (by simpa using hb) e) f0 f1 f3 f4 f5
    refine ⟨_, rfl, go_of (s := { s with heap := h', toks := tk }) (n := "range_iterator") st' rfl rfl (by decide) ⟨.int (lo + i), H, I1, ⟨t, ?_⟩, ⟨rfl, rfl⟩, st', fun b hb => (hf b hb).1⟩⟩
    rw [Int.mul_one]
  done := by
    intro X hP hw hK hc i pins s σ H E I hf st hg
    subst hP hw hK
    obtain ⟨f0, f1, f2, f3, f4, f5⟩ := hf it (by simp)
    exact wpAny_pyNext_range_end (I.ok.hd hc) st (by have : n ≤ i := hg; omega) fun h' eb => ⟨rfl, I.turned (t' := s.toks) (fun b o hb e => eb b o hb e) f0 f1 f3 f4 f5⟩
  self := fun _ _ _ _ _ st h => wpAny_pyIter_rangeiter st h
end L2
namespace L2
open PySem PySem.Spec PyProof.Rows
section
variable {X : Cx} {tg : Expr}
def iList (K : PySem.W.Frag) (tl : TE) : TI := fun σ H R => tl σ H fun x H1 => ∃ a, x = .ref a ∧ (∃ xs, SqL K H1 a xs) ∧ R (Itl K a) H1
theorem pi_list {l : Expr} {tl : TE} (hl : PE X l tl) : PI X tg l (iList X.K tl) := by
  intro pins s σ H R I h
  refine thn (hl pins s σ H _ I h) fun v s1 ⟨x, H1, I1, r1, q1⟩ => ?_
  obtain ⟨a, e, ⟨xs, hq⟩, q⟩ := q1
  subst e
  cases r1
  obtain ⟨its, rv, p, hz⟩ := I1.list hq
  refine wpAny_pyIter_list p.isList ?_
  refine ⟨s1.heap.objs.size, [s1.heap.objs.size], _, _, H1, rfl, I1.kept (t' := s1.toks) fun b o e => Heap.get?_push_of_some _ e, turn_list a _, ⟨_, Heap.get?_push_size _ rfl, rfl, rfl⟩, fun b hb => ?_, q⟩
  have e : b = s1.heap.objs.size := by simpa using hb
  subst e
  exact I1.fpOk (Nat.le_refl _) (I1.hok.fresh (Nat.le_refl _))
theorem range_it {pins : List (Addr × Obj)} {σ : St} {H : Hp} {s : Shared} {R : It → Hp → Prop} {E : Value → Shared → Prop} {lo hi : Int} {t u v : Tok} {tk : Nat} (I : Inv X pins σ H s) (h1 : -(2 ^ 62) ≤ lo) (h2 : lo < 2 ^ 62) (h3 : -(2 ^ 62) ≤ hi) (h4 : hi < 2 ^ 62)
    (q : R (Itr lo (hi - lo).toNat) H) : wpAny (model X.prog X.w) X.A (pyIter (.ref s.heap.objs.size)) (PIE X pins σ tg R) E { s with heap := s.heap.push { cls := .type "range", data := .fields #[.int lo t, .int hi u, .int 1 v] }, toks := tk } := by
  refine wpAny_pyIter_range (IsRange.new ..) (small_one h1 h2 h3 h4) ?_
  have I1 : Inv X pins σ H { s with heap := s.heap.push { cls := .type "range", data := .fields #[.int lo t, .int hi u, .int 1 v] }, toks := tk } := I.kept fun b o e => Heap.get?_push_of_some _ e
  refine ⟨(s.heap.push { cls := .type "range", data := .fields #[.int lo t, .int hi u, .int 1 v] }).objs.size, [(s.heap.push { cls := .type "range", data := .fields #[.int lo t, .int hi u, .int 1 v] }).objs.size], _, _, H, rfl,
    I1.kept (t' := tk) fun b o e => Heap.get?_push_of_some _ e, turn_range _ lo (hi - lo).toNat, ?_, fun b hb => ?_, q⟩
  · have e1 : lo + ((0 : Nat) : Int) * 1 = lo := by simp
    have e2 : (((hi - lo).toNat : Nat) : Int) - ((0 : Nat) : Int) = Builtin.Range.rangeSize lo hi 1 := by rw [rangeSize_one]; split <;> omega
    show IsRangeIter _ _ (lo + ((0 : Nat) : Int) * 1) ((((hi - lo).toNat : Nat) : Int) - ((0 : Nat) : Int)) 1
    rw [e1, e2]
    exact Heap.get?_push_size _ rfl
  · have e : b = (s.heap.push { cls := .type "range", data := .fields #[.int lo t, .int hi u, .int 1 v] }).objs.size := by simpa using hb
    subst e
    exact I1.fpOk (Nat.le_refl _) (I1.hok.fresh (Nat.le_refl _))
def iRng1 (ta : TA) : TI := fun σ H R => ta σ H fun vs H1 => ∃ j : Int, vs = [.int j] ∧ -(2 ^ 62) ≤ j ∧ j < 2 ^ 62 ∧ R (Itr 0 j.toNat) H1
theorem pi_range1 {a : Expr} {ta : TA} {p pos : Pos} (hg : Gl X "range") (hm : X.mg "range" = none) (ha : PA X [a] ta) (hs : starEach [a] X.env = [(false, eval a X.env)] := by rfl) : PI X tg (.Call (.Name "range" p) [a] [] pos) (iRng1 ta) := by
  intro pins s σ H R I h
  refine Call_ (ld_blt I hg hm boot_range (PyProof.Rows.callWith_type1 (thn (ha pos pins s σ H _ I h) fun us s1 ⟨vs, H1, I1, r1, q1⟩ => ?_) hs rfl))
  obtain ⟨j, e, q1, q2, q⟩ := q1
  subst e
  cases r1 with
  | cons r rr =>
    cases rr
    obtain ⟨t, rfl⟩ := r
    exact call_range_1 (range_it I1 (by omega) (by omega) q1 q2 (by simpa using q))
def tFor (wi : TI) (g : TG) (tb : TS) : TS := fun D σ H => wi σ H fun J H1 => ∃ W : Nat → Nat → St → Hp → Prop, (∃ m, W 0 m σ H1) ∧ ∀ i m σ H, W i m σ H →
  (J.stop i H ∧ D.nx σ H) ∨ (J.go i H ∧ ∃ N : St → Hp → Prop, (∀ σ' H', N σ' H' → ∃ m', m' < m ∧ W (i + 1) m' σ' H') ∧ ∀ x H', J.yld i H x H' → g x σ H' fun σ2 H2 => tb { D with nx := N, ct := N, bk := D.nx } σ2 H2)
def pinsAt (fp : List Addr) (h : Heap) : List (Addr × Obj) := fp.filterMap fun b => (h.get? b).map fun o => (b, o)
theorem mem_pinsAt {fp : List Addr} {h : Heap} {b : Addr} {o : Obj} (hb : b ∈ fp) (e : h.get? b = some o) : (b, o) ∈ pinsAt fp h := List.mem_filterMap.mpr ⟨b, hb, by rw [e]; rfl⟩
theorem of_pinsAt {fp : List Addr} {h : Heap} {p : Addr × Obj} (hp : p ∈ pinsAt fp h) : p.1 ∈ fp ∧ h.get? p.1 = some p.2 := by
  obtain ⟨b, hb, e⟩ := List.mem_filterMap.mp hp
  cases q : h.get? b with
  | none => rw [q] at e; cases e
  | some o =>
    rw [q] at e
    have e' : (b, o) = p := Option.some.inj e
    subst e'
    exact ⟨hb, q⟩
theorem Inv.pinned {pins : List (Addr × Obj)} {σ : St} {H : Hp} {s : Shared} {fp : List Addr} (I : Inv X pins σ H s) (hf : ∀ b ∈ fp, FpOk X pins H b) (ho : ∀ b ∈ fp, ∃ o, s.heap.get? b = some o ∧ ∀ v, o.data ≠ .cell v) : Inv X (pins ++ pinsAt fp s.heap) σ H s :=
  I.pins_of fun p hp => (List.mem_append.mp hp).elim (fun z => I.pin p (List.mem_append_right _ z)) fun z => by
    obtain ⟨hb, e⟩ := of_pinsAt z
    obtain ⟨f0, f1, f2, _⟩ := hf p.1 hb
    obtain ⟨o, e', d⟩ := ho p.1 hb
    rw [e] at e'; cases e'
    exact ⟨e, f0, f1, f2, d⟩
theorem Inv.unpinned {pins pl : List (Addr × Obj)} {σ : St} {H : Hp} {s : Shared} (I : Inv X (pins ++ pl) σ H s) : Inv X pins σ H s := I.pins_of fun p hp => I.pin p (List.mem_append_right _ (List.mem_append_left _ hp))
theorem ps_for {iter : Expr} {body : List Stmt} {wi : TI} {g : TG} {tb : TS} {pos : Pos} (hp : PassesOwn (model X.prog X.w) X.A X.env X.xe) (hc : X.calm = true) (hi : PI X tg iter wi) (hg : PG X tg g) (hb : PSs X body tb)
    (hs : ∀ x, foldedSetIterable iter X.env x = pure x := by intro _; rfl) : PS X (.For tg iter body [] pos) (tFor wi g tb) := by
  intro pins s σ H D I h
  refine wpAny_For (thn (hi pins s σ H _ I h) fun v s1 h1 => thn h1 fun itv s2 h2 => ?_) hs
  obtain ⟨it, fp, tn, J, H2, e, I2, T, st2, f2, W, ⟨m0, w0⟩, turn⟩ := h2
  subst e
  have stat : ∀ {H' : Hp}, (∀ b ∈ fp, H' b = none) → ∀ b ∈ fp, FpOk X pins H' b := fun hn b hb => ⟨hn b hb, (f2 b hb).2⟩
  refine codeAny_forLoop_any (fun n s' => ∃ i σ' H', Inv X pins σ' H' s' ∧ tn i s'.heap ∧ (∀ b ∈ fp, H' b = none) ∧ W i n σ' H') ?_ m0 ⟨0, σ, H2, I2, st2, fun b hb => (f2 b hb).1, w0⟩
  rintro n s3 ⟨i, σ3, H3, I3, st3, fr3, w3⟩
  rcases turn i n σ3 H3 w3 with ⟨stop, qn⟩ | ⟨go, N, hN, step⟩
  · refine wpAny_passesOwn hp (thn (T.done X rfl rfl rfl hc i pins s3 σ3 H3 X.xe I3 (stat fr3) st3 stop) fun r s4 ⟨hr, I4⟩ => ?_)
    subst hr
    exact wpAny_execs_nil ⟨σ3, H3, I4, qn⟩
  · refine wpAny_passesOwn hp (thn (T.item X rfl rfl rfl hc i pins s3 σ3 H3 X.xe I3 (stat fr3) st3 go) fun r s4 ⟨u, hr, h4⟩ => ?_)
    subst hr
    refine wpAny_passesOwn hp (thn h4 fun _ s5 ⟨x, H5, I5, r5, y5, st5, fr5⟩ => ?_)
    have I5' := I5.pinned (stat fr5) (T.obj _ _ st5)
    refine wpAny_passesOwn hp (thn (hg _ s5 σ3 H5 x u _ I5' r5 (step x H5 y5)) fun _ s6 ⟨σ6, H6, I6, q6⟩ => ?_)
    refine wpAny_passesOwn hp (thn (hb _ s6 σ6 H6 _ I6 q6) fun f s7 q7 => ?_)
    have again : ∀ {σ7 : St} {H7 : Hp}, Inv X (pins ++ pinsAt fp s5.heap) σ7 H7 s7 → N σ7 H7 → ∃ m, m < n ∧ ∃ i σ' H', Inv X pins σ' H' s7 ∧ tn i s7.heap ∧ (∀ b ∈ fp, H' b = none) ∧ W i m σ' H' := fun {σ7 H7} I7 n7 => by
      obtain ⟨m', hm, w7⟩ := hN σ7 H7 n7
      refine ⟨m', hm, i + 1, σ7, H7, I7.unpinned, T.keep _ _ _ st5 fun b hb o e => (I7.pin (b, o) (List.mem_append_right _ (List.mem_append_right _ (mem_pinsAt hb e)))).1, fun b hb => ?_, w7⟩
      obtain ⟨o, e, d⟩ := T.obj _ _ st5 b hb
      exact (I7.pin (b, o) (List.mem_append_right _ (List.mem_append_right _ (mem_pinsAt hb e)))).2.1
    cases f with
    | next => obtain ⟨σ7, H7, I7, n7⟩ := q7; exact again I7 n7
    | cont => obtain ⟨σ7, H7, I7, n7⟩ := q7; exact again I7 n7
    | brk => obtain ⟨σ7, H7, I7, q7⟩ := q7; exact ⟨σ7, H7, I7.unpinned, q7⟩
    | ret v => obtain ⟨x7, σ7, H7, I7, r7, q7⟩ := q7; exact ⟨x7, σ7, H7, I7.unpinned, r7, q7⟩
end
theorem for_list {K : PySem.W.Frag} {a : Addr} {xs : List V} {g : TG} {tb : TS} {D : Ends} {σ : St} {H : Hp} (Pv : Nat → St → Hp → Prop) (h0 : Pv 0 σ H) (hl : ∀ i σ H, i ≤ xs.length → Pv i σ H → SqL K H a xs)
    (hs : ∀ i x σ H, xs[i]? = some x → Pv i σ H → g x σ H fun σ2 H2 => tb { D with nx := Pv (i + 1), ct := Pv (i + 1), bk := D.nx } σ2 H2) (hd : ∀ σ H, Pv xs.length σ H → D.nx σ H) :
    ∃ W : Nat → Nat → St → Hp → Prop, (∃ m, W 0 m σ H) ∧ ∀ i m σ H, W i m σ H →
      ((Itl K a).stop i H ∧ D.nx σ H) ∨ ((Itl K a).go i H ∧ ∃ N : St → Hp → Prop, (∀ σ' H', N σ' H' → ∃ m', m' < m ∧ W (i + 1) m' σ' H') ∧ ∀ x H', (Itl K a).yld i H x H' → g x σ H' fun σ2 H2 => tb { D with nx := N, ct := N, bk := D.nx } σ2 H2) := by
  refine ⟨fun i m σ H => m = xs.length - i ∧ i ≤ xs.length ∧ Pv i σ H, ⟨xs.length, by simp, Nat.zero_le _, h0⟩, ?_⟩
  rintro i m σ H ⟨rfl, hi, p⟩
  have q := hl i σ H hi p
  by_cases hlt : i < xs.length
  · refine .inr ⟨⟨xs, xs[i], q, by simp [hlt]⟩, Pv (i + 1), fun σ' H' p' => ⟨xs.length - (i + 1), by omega, rfl, hlt, p'⟩, fun x H' y => ?_⟩
    obtain ⟨e, y⟩ := y
    subst e
    exact hs i x σ _ (y xs q) p
  · have e : i = xs.length := by omega
    subst e
    exact .inl ⟨⟨xs, q, Nat.le_refl _⟩, hd σ H p⟩
end L2
namespace L2
open PySem PySem.Spec PyProof.Rows
abbrev R2 := V → V → Hp → VK → Prop
def OpR (X : Cx) (f : Value → Value → Sem Value) (r : R2) : Prop :=
  ∀ (pins : List (Addr × Obj)) (s : Shared) (σ : St) (H : Hp) (x y : V) (v u : Value) (Q : VK), Inv X pins σ H s → RelV x v → RelV y u → r x y H Q →
    wpAny (model X.prog X.w) X.A (f v u) (EP X pins σ Q) X.xe s
def CallR (X : Cx) (f : Value) (r : List V → Hp → VK → Prop) : Prop :=
  ∀ (pins : List (Addr × Obj)) (s : Shared) (σ : St) (H : Hp) (xs : List V) (us : List Value) (Q : VK), Inv X pins σ H s → Vals xs us → r xs H Q →
    wpAny (model X.prog X.w) X.A (call f us) (EP X pins σ Q) X.xe s
def tOp (r : R2) (ta tb : TE) : TE := fun σ H Q => ta σ H fun x H1 => tb σ H1 fun y H2 => r x y H2 Q
def rI (C : Int → Int → Prop) (g : Int → Int → V) : R2 := fun x y H Q => ∃ i j, x = .int i ∧ y = .int j ∧ C i j ∧ Q (g i j) H
def rI0 (g : Int → Int → V) : R2 := fun x y H Q => ∃ i j, x = .int i ∧ y = .int j ∧ Q (g i j) H
section
variable {X : Cx} {a b c : Expr} {ta tb tc : TE} {pos : Pos}
theorem binT (ha : PE X a ta) (hb : PE X b tb) {pins : List (Addr × Obj)} {s : Shared} {σ : St} {H : Hp} {R : V → V → Hp → Prop} (I : Inv X pins σ H s)
    (h : ta σ H fun x H1 => tb σ H1 fun y H2 => R x y H2) {Q : Value → Shared → Prop} {f : Value → Value → Sem Value}
    (hf : ∀ v u s2 x y H2, Inv X pins σ H2 s2 → RelV x v → RelV y u → R x y H2 → wpAny (model X.prog X.w) X.A (f v u) Q X.xe s2) :
    wpAny (model X.prog X.w) X.A (eval a X.env) (fun v s₁ => wpAny (model X.prog X.w) X.A (eval b X.env) (fun u s₂ => wpAny (model X.prog X.w) X.A (f v u) Q X.xe s₂) X.xe s₁) X.xe s := by
  refine thn (ha pins s σ H _ I h) fun v s1 ⟨x, H1, I1, r1, q1⟩ => ?_
  refine thn (hb pins s1 σ H1 _ I1 q1) fun u s2 ⟨y, H2, I2, r2, q2⟩ => ?_
  exact hf v u s2 x y H2 I2 r1 r2 q2
theorem pe_op {op : Operator} {r : R2} (ho : OpR X (binaryOp op) r) (ha : PE X a ta) (hb : PE X b tb) : PE X (.BinOp a op b pos) (tOp r ta tb) := by
  intro pins s σ H Q I h
  exact wpAny_BinOp (binT ha hb I h fun v u s2 x y H2 I2 rx ry q => ho pins s2 σ H2 x y v u Q I2 rx ry q)
theorem opI {f : Value → Value → Sem Value} {C : Int → Int → Prop} {g : Int → Int → Int}
    (rule : ∀ (i j : Int) (t u : Tok) (s : Shared) (Q : Value → Shared → Prop) (E : Value → Shared → Prop), C i j → Q (.int (g i j) s.toks) { s with toks := s.toks + 1 } → wpAny (model X.prog X.w) X.A (f (.int i t) (.int j u)) Q E s) :
    OpR X f (rI C fun i j => .int (g i j)) := by
  intro pins s σ H x y v u Q I rx ry h
  obtain ⟨i, j, rfl, rfl, hc, q⟩ := h
  obtain ⟨t, rfl⟩ := rx
  obtain ⟨t', rfl⟩ := ry
  exact rule i j t t' s _ _ hc ⟨.int (g i j), H, I.tok _, ⟨_, rfl⟩, q⟩
theorem opI0 {f : Value → Value → Sem Value} {g : Int → Int → Int}
    (rule : ∀ (i j : Int) (t u : Tok) (s : Shared) (Q : Value → Shared → Prop) (E : Value → Shared → Prop), Q (.int (g i j) s.toks) { s with toks := s.toks + 1 } → wpAny (model X.prog X.w) X.A (f (.int i t) (.int j u)) Q E s) :
    OpR X f (rI0 fun i j => .int (g i j)) := by
  intro pins s σ H x y v u Q I rx ry h
  obtain ⟨i, j, rfl, rfl, q⟩ := h
  obtain ⟨t, rfl⟩ := rx
  obtain ⟨t', rfl⟩ := ry
  exact rule i j t t' s _ _ ⟨.int (g i j), H, I.tok _, ⟨_, rfl⟩, q⟩
theorem opB0 {f : Value → Value → Sem Value} {g : Int → Int → Bool}
    (rule : ∀ (i j : Int) (t u : Tok) (s : Shared) (Q : Value → Shared → Prop) (E : Value → Shared → Prop), Q (.bool (g i j)) s → wpAny (model X.prog X.w) X.A (f (.int i t) (.int j u)) Q E s) :
    OpR X f (rI0 fun i j => .bl (g i j)) := by
  intro pins s σ H x y v u Q I rx ry h
  obtain ⟨i, j, rfl, rfl, q⟩ := h
  obtain ⟨t, rfl⟩ := rx
  obtain ⟨t', rfl⟩ := ry
  exact rule i j t t' s _ _ ⟨.bl (g i j), H, I, rfl, q⟩
def CDiv (i j : Int) : Prop := 0 < j ∧ j < 1073741824
def CPow (i j : Int) : Prop := 0 ≤ j ∧ j ≤ 1000000 ∧ i.natAbs < 2 ^ 64
def CMul (i j : Int) : Prop := (-(2 ^ 64) < i ∧ i < 2 ^ 64) ∨ (-(2 ^ 64) < j ∧ j < 2 ^ 64)
theorem CMul.ok {i j : Int} (h : CMul i j) : IntMulOk i j := by
  rcases h with ⟨h1, h2⟩ | ⟨h1, h2⟩
  · exact .of_left (intBits_le_64 h1 h2)
  · exact .of_right (intBits_le_64 h1 h2)
theorem two_pow_nn (k : Nat) : (0 : Int) ≤ 2 ^ k := by
  rw [two_pow_cast]
  exact Int.natCast_nonneg _
theorem op_add : OpR X (binaryOp .Add) (rI0 fun i j => .int (i + j)) := opI0 fun _ _ _ _ _ _ _ q => add_int q
theorem op_mul : OpR X (binaryOp .Mult) (rI CMul fun i j => .int (i * j)) := opI fun _ _ _ _ _ _ _ hc q => mul_int q hc.ok
theorem op_fdiv : OpR X (binaryOp .FloorDiv) (rI CDiv fun i j => .int (i / j)) := opI fun i j _ _ _ _ _ hc q => by
  have h1 : (0 : Int) < j := hc.1
  have h2 : j < 1073741824 := hc.2
  exact floordiv_int (by omega) (by rw [Int.fdiv_eq_ediv_of_nonneg i (by omega)]; exact q) (.inl (PyProof.noPylong_small (by omega)))
theorem op_mod : OpR X (binaryOp .Mod) (rI (fun _ j => 0 < j) fun i j => .int (i % j)) := opI fun i j _ _ _ _ _ hc q => by
  have h1 : (0 : Int) < j := hc
  exact mod_int' (by omega) (by rw [Int.fmod_eq_emod_of_nonneg i (by omega)]; exact q)
theorem op_pow : OpR X (binaryOp .Pow) (rI CPow fun i j => .int (i ^ j.toNat)) := opI fun _ _ _ _ _ _ _ hc q => pow_int_small hc.1 hc.2.1 hc.2.2 q
theorem op_shr : OpR X (binaryOp .RShift) (rI (fun _ j => 0 ≤ j) fun i j => .int (i / 2 ^ j.toNat)) := opI fun i j _ _ _ _ _ hc q =>
  rshift_int hc (by rw [Int.fdiv_eq_ediv_of_nonneg i (two_pow_nn _)]; exact q)
theorem op_and : OpR X (binaryOp .BitAnd) (rI0 fun i j => .int (Builtin.bitAnd i j)) := opI0 fun _ _ _ _ _ _ _ q => and_int q
end
def scal : V → V → Bool
  | .non, .non => true | .non, .int _ => true | .int _, .non => true | .non, .bl _ => true | .bl _, .non => true | .non, .str _ => true | .str _, .non => true
  | .int _, .int _ => true | .bl _, .bl _ => true | .str _, .str _ => true | .byt _, .byt _ => true
  | .int _, .str _ => true | .str _, .int _ => true | .bl _, .str _ => true | .str _, .bl _ => true
  | _, _ => false
def rEq : R2 := fun x y H Q => scal x y = true ∧ Q (.bl (decide (x = y))) H
def rNe : R2 := fun x y H Q => scal x y = true ∧ Q (.bl (!decide (x = y))) H
theorem dec_int {i j : Int} : decide (V.int i = V.int j) = (i == j) := by
  rw [Bool.eq_iff_iff]
  simp
theorem dec_bl {i j : Bool} : decide (V.bl i = V.bl j) = (i == j) := by
  rw [Bool.eq_iff_iff]
  simp
theorem dec_str {i j : Str} : decide (V.str i = V.str j) = (i == j) := by
  rw [Bool.eq_iff_iff]
  simp
theorem dec_byt {i j : Array UInt8} : decide (V.byt i = V.byt j) = (i.toList == j.toList) := by
  rw [Bool.eq_iff_iff]
  cases i
  cases j
  simp
section
variable {X : Cx} {a b c : Expr} {ta tb tc : TE} {pos : Pos}
theorem fin_bl {pins : List (Addr × Obj)} {σ : St} {H : Hp} {s : Shared} {Q : VK} {k k' : Bool} (I : Inv X pins σ H s) (q : Q (.bl k) H) (e : k = k') : EP X pins σ Q (.bool k') s := by
  subst e
  exact ⟨.bl k, H, I, rfl, q⟩
theorem op_eq : OpR X (compareOp .Eq) rEq := by
  intro pins s σ H x y v u Q I rx ry h
  obtain ⟨hs, q⟩ := h
  cases x with
  | non =>
    cases rx
    cases y with
    | non => cases ry; exact PySem.EqNone.eq_none_none (fin_bl I q (by simp))
    | bl j => cases ry; exact PySem.EqNone.eq_none_bool (fin_bl I q (by simp))
    | int j => obtain ⟨t', rfl⟩ := ry; exact PySem.EqNone.eq_none_int (fin_bl I q (by simp))
    | str j => obtain ⟨t', rfl⟩ := ry; exact PySem.EqNone.eq_none_str (fin_bl I q (by simp))
    | _ => exact absurd (show false = true from hs) Bool.false_ne_true
  | bl i =>
    cases rx
    cases y with
    | non => cases ry; exact PySem.EqNone.eq_bool_none (fin_bl I q (by simp))
    | bl j => cases ry; exact eq_bool (fin_bl I q dec_bl)
    | str j => obtain ⟨t', rfl⟩ := ry; exact PySem.EqMixed.eq_bool_str (fin_bl I q (by simp))
    | _ => exact absurd (show false = true from hs) Bool.false_ne_true
  | int i =>
    obtain ⟨t, rfl⟩ := rx
    cases y with
    | non => cases ry; exact PySem.EqNone.eq_int_none (fin_bl I q (by simp))
    | int j => obtain ⟨t', rfl⟩ := ry; exact eq_int (fin_bl I q dec_int)
    | str j => obtain ⟨t', rfl⟩ := ry; exact PySem.EqMixed.eq_int_str (fin_bl I q (by simp))
    | _ => exact absurd (show false = true from hs) Bool.false_ne_true
  | str i =>
    obtain ⟨t, rfl⟩ := rx
    cases y with
    | non => cases ry; exact PySem.EqNone.eq_str_none (fin_bl I q (by simp))
    | bl j => cases ry; exact PySem.EqMixed.eq_str_bool (fin_bl I q (by simp))
    | int j => obtain ⟨t', rfl⟩ := ry; exact PySem.EqMixed.eq_str_int (fin_bl I q (by simp))
    | str j => obtain ⟨t', rfl⟩ := ry; exact eq_str (fin_bl I q dec_str)
    | _ => exact absurd (show false = true from hs) Bool.false_ne_true
  | byt i =>
    obtain ⟨t, rfl⟩ := rx
    cases y with
    | byt j => obtain ⟨t', rfl⟩ := ry; exact PySem.W.eq_bytes (fin_bl I q dec_byt)
    | _ => exact absurd (show false = true from hs) Bool.false_ne_true
  | _ => cases y <;> exact absurd (show false = true from hs) Bool.false_ne_true
theorem op_ne : OpR X (compareOp .NotEq) rNe := by
  intro pins s σ H x y v u Q I rx ry h
  obtain ⟨hs, q⟩ := h
  cases x with
  | non =>
    cases rx
    cases y with
    | non => cases ry; exact PySem.EqNone.ne_none_none (fin_bl I q (by simp))
    | bl j => cases ry; exact PySem.EqNone.ne_none_bool (fin_bl I q (by simp))
    | int j => obtain ⟨t', rfl⟩ := ry; exact PySem.EqNone.ne_none_int (fin_bl I q (by simp))
    | str j => obtain ⟨t', rfl⟩ := ry; exact PySem.EqNone.ne_none_str (fin_bl I q (by simp))
    | _ => exact absurd (show false = true from hs) Bool.false_ne_true
  | bl i =>
    cases rx
    cases y with
    | non => cases ry; exact PySem.EqNone.ne_bool_none (fin_bl I q (by simp))
    | bl j => cases ry; exact ne_bool (fin_bl I q (congrArg not dec_bl))
    | str j => obtain ⟨t', rfl⟩ := ry; exact PySem.EqMixed.ne_bool_str (fin_bl I q (by simp))
    | _ => exact absurd (show false = true from hs) Bool.false_ne_true
  | int i =>
    obtain ⟨t, rfl⟩ := rx
    cases y with
    | non => cases ry; exact PySem.EqNone.ne_int_none (fin_bl I q (by simp))
    | int j => obtain ⟨t', rfl⟩ := ry; exact ne_int (fin_bl I q (congrArg not dec_int))
    | str j => obtain ⟨t', rfl⟩ := ry; exact PySem.EqMixed.ne_int_str (fin_bl I q (by simp))
    | _ => exact absurd (show false = true from hs) Bool.false_ne_true
  | str i =>
    obtain ⟨t, rfl⟩ := rx
    cases y with
    | non => cases ry; exact PySem.EqNone.ne_str_none (fin_bl I q (by simp))
    | bl j => cases ry; exact PySem.EqMixed.ne_str_bool (fin_bl I q (by simp))
    | int j => obtain ⟨t', rfl⟩ := ry; exact PySem.EqMixed.ne_str_int (fin_bl I q (by simp))
    | str j => obtain ⟨t', rfl⟩ := ry; exact ne_str (fin_bl I q (congrArg not dec_str))
    | _ => exact absurd (show false = true from hs) Bool.false_ne_true
  | byt i =>
    obtain ⟨t, rfl⟩ := rx
    cases y with
    | byt j => obtain ⟨t', rfl⟩ := ry; exact PySem.W.ne_bytes (fin_bl I q (congrArg not dec_byt))
    | _ => exact absurd (show false = true from hs) Bool.false_ne_true
  | _ => cases y <;> exact absurd (show false = true from hs) Bool.false_ne_true
theorem op_lt : OpR X (compareOp .Lt) (rI0 fun i j => .bl (decide (i < j))) := opB0 fun _ _ _ _ _ _ _ q => lt_int q
theorem op_le : OpR X (compareOp .LtE) (rI0 fun i j => .bl (decide (i ≤ j))) := opB0 fun _ _ _ _ _ _ _ q => le_int q
theorem op_gt : OpR X (compareOp .Gt) (rI0 fun i j => .bl (decide (j < i))) := opB0 fun _ _ _ _ _ _ _ q => gt_int q
theorem op_isN : OpR X (compareOp .Is) (fun x y H Q => y = .non ∧ Q (.bl (decide (x = .non))) H) := by
  intro pins s σ H x y v u Q I rx ry h
  obtain ⟨rfl, q⟩ := h
  cases ry
  refine is_none_gen (fin_bl I q ?_)
  cases x <;> first
    | (cases rx; rfl)
    | (obtain ⟨t, rfl⟩ := rx; rfl)
theorem op_notN : OpR X (compareOp .IsNot) (fun x y H Q => y = .non ∧ Q (.bl (!decide (x = .non))) H) := by
  intro pins s σ H x y v u Q I rx ry h
  obtain ⟨rfl, q⟩ := h
  cases ry
  refine isnot_none_gen (fin_bl I q ?_)
  cases x <;> first
    | (cases rx; rfl)
    | (obtain ⟨t, rfl⟩ := rx; rfl)
theorem nomark (b : Expr) {op : CmpOp} (h : op ≠ .In := by decide) (h2 : op ≠ .NotIn := by decide) : behindInMarks op b = false := by
  have e1 : (op == CmpOp.In) = false := by cases op <;> first | rfl | exact absurd rfl h
  have e2 : (op == CmpOp.NotIn) = false := by cases op <;> first | rfl | exact absurd rfl h2
  cases b <;> simp [behindInMarks, e1, e2]
theorem pe_cmpR {op : CmpOp} {r : R2} (ho : OpR X (compareOp op) r) (ha : PE X a ta) (hb : PE X b tb) (hm : behindInMarks op b = false) : PE X (.Compare a [op] [b] pos) (tOp r ta tb) := by
  intro pins s σ H Q I h
  exact wpAny_Compare1 (binT ha hb I h fun v u s2 x y H2 I2 rx ry q => ho pins s2 σ H2 x y v u Q I2 rx ry q) hm
def tTest (t : TE) : TT := fun σ H Q => t σ H fun x H' => ∃ k, x = .bl k ∧ Q k H'
theorem pt_cmpR {op : CmpOp} {r : R2} (ho : OpR X (compareOp op) r) (ha : PE X a ta) (hb : PE X b tb) (hm : behindInMarks op b = false) : PT X (.Compare a [op] [b] pos) (tTest (tOp r ta tb)) := by
  intro pins s σ H Q I h
  refine wpAny_isTrue_Compare1 (thn (ha pins s σ H _ I h) fun v s1 ⟨x, H1, I1, r1, q1⟩ => thn (hb pins s1 σ H1 _ I1 q1) fun u s2 ⟨y, H2, I2, r2, q2⟩ =>
    thn (ho pins s2 σ H2 x y v u _ I2 r1 r2 q2) fun c s3 ⟨z, H3, I3, r3, k, e, q3⟩ => ?_) hm
  subst e
  cases r3
  exact wpAny_truthy_bool ⟨H3, I3, q3⟩
def tChain (r r' : R2) (ta tb tc : TE) : TE := fun σ H Q => ta σ H fun x H1 => tb σ H1 fun y H2 => r x y H2 fun z H3 => ∃ k, z = .bl k ∧
  (if k = true then tc σ H3 fun w' H4 => r' y w' H4 Q else Q (.bl false) H3)
theorem pt_chain {op op' : CmpOp} {r r' : R2} (ho : OpR X (compareOp op) r) (ho' : OpR X (compareOp op') r') (ha : PE X a ta) (hb : PE X b tb) (hc : PE X c tc)
    (hm : lastMarks [op, op'] [b, c] = false := by with_unfolding_all rfl) : PT X (.Compare a [op, op'] [b, c] pos) (tTest (tChain r r' ta tb tc)) := by
  intro pins s σ H Q I h
  refine isTrue_chain (thn (ha pins s σ H _ I h) fun v s1 ⟨x, H1, I1, r1, q1⟩ => test_link (thn (hb pins s1 σ H1 _ I1 q1) fun u s2 ⟨y, H2, I2, r2, q2⟩ =>
    thn (ho pins s2 σ H2 x y v u _ I2 r1 r2 q2) fun d s3 ⟨z, H3, I3, r3, k, e, q3⟩ => ?_)) hm
  subst e
  cases r3
  refine wpAny_truthy_bool ?_
  cases k with
  | false =>
    obtain ⟨k', e', q'⟩ := q3
    cases e'
    exact ite_ff ⟨H3, I3, q'⟩
  | true =>
    refine ite_tt (test_last (thn (hc pins s3 σ H3 _ I3 q3) fun w' s4 ⟨z', H4, I4, r4, q4⟩ => thn (ho' pins s4 σ H4 y z' u w' _ I4 r2 r4 q4) fun d' s5 ⟨z2, H5, I5, r5, k2, e2, q5⟩ => ?_))
    subst e2
    cases r5
    exact wpAny_truthy_bool ⟨H5, I5, q5⟩
theorem line63 : (sizeLine : Nat) < 2 ^ 63 := by rw [sizeLine_eq]; decide
theorem op_add_str : OpR X (binaryOp .Add) (fun x y H Q => ∃ i j, x = .str i ∧ y = .str j ∧ i.length + j.length ≤ sizeLine ∧ Q (.str (i ++ j)) H) := by
  intro pins s σ H x y v u Q I rx ry h
  obtain ⟨i, j, rfl, rfl, hz, q⟩ := h
  obtain ⟨t, rfl⟩ := rx
  obtain ⟨t', rfl⟩ := ry
  exact add_str (fun t' tk => ⟨.str (i ++ j), H, I.tok _, ⟨_, rfl⟩, q⟩) hz
theorem vals1 {x : V} {us : List Value} (r : Vals [x] us) : ∃ u, us = [u] ∧ RelV x u := by
  cases r with
  | cons r1 r2 => cases r2; exact ⟨_, rfl, r1⟩
theorem vals2 {x y : V} {us : List Value} (r : Vals [x, y] us) : ∃ u w', us = [u, w'] ∧ RelV x u ∧ RelV y w' := by
  cases r with
  | cons r1 r2 =>
    cases r2 with
    | cons r3 r4 => cases r4; exact ⟨_, _, rfl, r1, r3⟩
theorem call_divmod : CallR X (.builtin "divmod") (fun xs H Q => ∃ i j, xs = [.int i, .int j] ∧ CDiv i j ∧ ∀ p, H p = none → Q (.ref p) (upd H p (.tup [.int (i / j), .int (i % j)]))) := by
  intro pins s σ H xs us Q I r h
  obtain ⟨i, j, rfl, ⟨h1, h2⟩, q⟩ := h
  obtain ⟨u, w', rfl, ⟨t, rfl⟩, ⟨t', rfl⟩⟩ := vals2 r
  refine divmod_int (by omega) ?_ (.inl (PyProof.noPylong_small (by omega)))
  rw [Int.fdiv_eq_ediv_of_nonneg i (by omega), Int.fmod_eq_emod_of_nonneg i (by omega)]
  have hn : H s.heap.objs.size = none := I.hok.fresh (Nat.le_refl _)
  refine ⟨.ref s.heap.objs.size, _, ?_, rfl, q _ hn⟩
  refine I.laid (fun b o e => Heap.get?_push_of_some _ e) (Nat.le_refl _) ⟨by simp only [List.length_cons, List.length_nil]; rw [sizeLine_eq]; decide, [.int (i / j) s.toks, .int (i % j) (s.toks + 1)], .cons ⟨_, rfl⟩ (.cons ⟨_, rfl⟩ .nil), ?_⟩
  exact ⟨_, Heap.get?_push_size s.heap rfl, rfl, 0, rfl⟩
end
end L2
namespace L2
open PySem PySem.Spec PyProof.Rows
structure ObjM (h : Heap) (x dx C : Addr) (mA : Str → Option Value) : Prop where
  obj : h.get? x = some (PySem.W.instObj C dx)
  ns : h.Ns1 dx mA
  ne : dx ≠ x
theorem lookIn_ns {h : Heap} {dx : Addr} {mA : Str → Option Value} (n : h.Ns1 dx mA) : ∃ od, h.get? dx = some od ∧ ∀ name, PySem.W.lookIn name od = some (mA name) := by
  obtain ⟨o, es, ep, ho, hd, hk, _, hm⟩ := n
  refine ⟨o, ho, fun name => ?_⟩
  have e := hm name
  unfold nsFind findBy at e
  rw [← Array.find?_toList] at e
  unfold PySem.W.lookIn
  rw [hd]
  dsimp only
  split
  · rename_i y q
    rw [q] at e
    exact congrArg some e
  · rename_i q
    rw [q] at e
    have a : es.toList.any (·.refKey) = false := by
      rw [List.any_eq_false]
      intro y hy
      obtain ⟨z, t, hkey⟩ := hk y (Array.mem_toList_iff.mp hy)
      simp [DictEntry.refKey, hkey]
    have a' : ¬ es.toList.any (·.refKey) = true := by rw [a]; exact Bool.false_ne_true
    rw [if_neg a']
    exact congrArg some e
theorem ObjM.look {h : Heap} {x dx C : Addr} {mA : Str → Option Value} (I : ObjM h x dx C mA) : ∃ od, PySem.W.InstAt h x (PySem.W.instObj C dx) C (some od) ∧ ∀ name, PySem.W.lookIn name od = some (mA name) :=
  let ⟨od, ho, hl⟩ := lookIn_ns I.ns
  ⟨od, ⟨I.obj, rfl, rfl, ho⟩, hl⟩
section
variable {prog : Program} {w : World} {A : Around} {E : Value → Shared → Prop} {s : Shared} {K : PySem.W.Frag} {x dx C f : Addr} {mA : Str → Option Value} {name : Str} {v : Value}
end
section
variable {P : Program} {w : World} {H H' : Hp} {h h' : Heap} {a C dx : Addr} {fs fs' : List (Str × V)}
theorem ins_get (hok : HOk P w H h) (e : H a = some (.ins C dx fs)) : ∃ mA, ObjM h a dx C mA ∧ (∀ f, RelO (fs.lookup f) (mA f)) ∧ PySem.Within mA (fs.map (·.1)) ∧ fs.length ≤ 1000 ∧ H dx = some (.own a) := by
  obtain ⟨d, z, ne, ob, mA, n, r, q⟩ := (show ObjOk P w H h a (.ins C dx fs) from hok a _ e)
  exact ⟨mA, ⟨ob, n, ne⟩, r, q, z, d⟩
end
structure Cls (K : PySem.W.Frag) (C : Addr) : Prop where
  pg : PySem.W.plainGet K C Str.empty = true
  hd : PySem.W.hasDictIn K C = true
  po : PySem.W.plainOver K C = true
  sa : PySem.W.findIn K (.ref C) "__setattr__" = some (some (.builtin "object.__setattr__"))
theorem Cls.get {K : PySem.W.Frag} {C : Addr} (c : Cls K C) (f : Str) : PySem.W.plainGet K C f = true := c.pg
section
variable {X : Cx} {pins : List (Addr × Obj)} {σ : St} {H : Hp} {s : Shared} {a C dx : Addr} {fs : List (Str × V)} {f : Str} {v : V} {A : Around} {E : Value → Shared → Prop}
end
section
variable {X : Cx} {o e value : Expr} {f : Str} {pos pos' tpos : Pos} {ta tv : TE}
end
section
variable {X : Cx} {pins : List (Addr × Obj)} {σ : St} {H : Hp} {s : Shared} {A : Around} {E : Value → Shared → Prop} {Q : Value → Shared → Prop} {c : Value} {b : Bool}
inductive TyOf (K : PySem.W.Frag) (H : Hp) : V → Value → Prop where
  | non : TyOf K H .non (.type "NoneType")
  | bl (x : Bool) : TyOf K H (.bl x) (.type "bool")
  | int (i : Int) : TyOf K H (.int i) (.type "int")
  | str (x : Str) : TyOf K H (.str x) (.type "str")
  | flt (x : UInt64) : TyOf K H (.flt x) (.type "float")
  | lst {a : Addr} {xs : List V} (e : H a = some (.lst xs)) : TyOf K H (.ref a) (.type "list")
  | frz {a : Addr} {o : Obj} {xs : List V} (e : H a = some (.frz o (.lst xs))) : TyOf K H (.ref a) (.type "list")
  | tup {a : Addr} {xs : List V} (e : H a = some (.tup xs)) : TyOf K H (.ref a) (.type "tuple")
  | dK {a : Addr} {kvs : List (Key × V)} (e : H a = some (.dK kvs)) : TyOf K H (.ref a) (.type "dict")
  | dT {a : Addr} {kvs : List (List Key × V)} (e : H a = some (.dT kvs)) : TyOf K H (.ref a) (.type "dict")
  | ins {a C dx : Addr} {fs : List (Str × V)} (e : H a = some (.ins C dx fs)) (cl : Cls K C) (ha : PySem.W.findIn K (.ref C) "__class__" = some (some (.builtin "object.__class__")))
      (hn : PySem.W.specialIn K (.builtin "object.__class__") "__get__" = some (some (.builtin "getset_descriptor.__get__"))) (htk : PySem.W.takesIn K (.builtin "object.__class__") = some true)
      (hm : PySem.W.mroIn K C (.type "object") = some true) : TyOf K H (.ref a) (.ref C)
end
end L2
namespace L2
open PySem PySem.Spec PyProof.Rows
structure Room (k : Nat) (A : Around) : Prop where
  hd : A.handled = none
  dp : A.depth + 3 * k + 5 < recursionLimit
  un : A.units + 16 * k + 200 < cLine
theorem Room.mono {j k : Nat} {A : Around} (r : Room k A) (h : j ≤ k) : Room j A := ⟨r.hd, by have := r.dp; omega, by have := r.un; omega⟩
theorem Room.deeper {k : Nat} {A : Around} (r : Room (k + 1) A) (env : Env) : Room k (A.deeper env) :=
  ⟨r.hd, by have := r.dp; show A.depth + 1 + 3 * k + 5 < _; omega, by have := r.un; show A.units + 3 + 16 * k + 200 < _; omega⟩
theorem Room.depth {k : Nat} {A : Around} (r : Room k A) : A.depth < recursionLimit := by have := r.dp; omega
def tNil : TA := fun _ H Q => Q [] H
def tCons (ta : TE) (tr : TA) : TA := fun σ H Q => ta σ H fun x H1 => tr σ H1 fun xs H2 => Q (x :: xs) H2
section
variable {X : Cx} {e : Expr} {es : List Expr} {te : TE} {t : TA} {pos : Pos}
theorem pa_nil : PA X [] tNil := fun _ _ _ _ H Q I h => Calls.spliced_nil ⟨[], H, I, .nil, h⟩
theorem pa_cons (ha : PE X e te) (hr : PA X es t) (hs : starEach (e :: es) X.env = (false, eval e X.env) :: starEach es X.env := by rfl) : PA X (e :: es) (tCons te t) := by
  intro pos pins s σ H Q I h
  rw [hs]
  show wpAny _ _ (spliced ((false, eval e X.env) :: backTo pos (starEach es X.env))) _ _ s
  refine Calls.spliced_cons (thn (ha pins s σ H _ I h) fun u s1 ⟨x, H1, I1, r1, q1⟩ => ?_)
  exact thn (hr pos pins s1 σ H1 _ I1 q1) fun us s2 ⟨xs, H2, I2, r2, q2⟩ => ⟨x :: xs, H2, I2, .cons r1 r2, q2⟩
def tTup (t : TA) : TE := fun σ H Q => t σ H fun xs H1 => xs.length ≤ sizeLine ∧ ∀ p, H1 p = none → Q (.ref p) (upd H1 p (.tup xs))
def tLst (t : TA) : TE := fun σ H Q => t σ H fun xs H1 => xs.length ≤ sizeLine ∧ ∀ p, H1 p = none → Q (.ref p) (upd H1 p (.lst xs))
theorem pe_tup {x1} (h : PA X es t) : PE X (.Tuple es x1 pos) (tTup t) := by
  intro pins s σ H Q I hq
  refine wpAny_Tuple_spliced (thn (h pos pins s σ H _ I hq) fun us s1 ⟨xs, H1, I1, r, z, q⟩ => ⟨by rw [← r.length]; exact z, ?_⟩)
  have hf : H1 s1.heap.objs.size = none := I1.hok.fresh (Nat.le_refl _)
  refine ⟨.ref s1.heap.objs.size, upd H1 s1.heap.objs.size (.tup xs), I1.laid (t' := s1.toks) (fun b u e => Heap.get?_push_of_some _ e) (Nat.le_refl _) ?_, rfl, q _ hf⟩
  exact ⟨z, us, r, ⟨_, Heap.get?_push_size _ rfl, rfl, _, rfl⟩⟩
theorem pe_lst (h : PA X es t) : PE X (.List es pos) (tLst t) := by
  intro pins s σ H Q I hq
  refine wpAny_List_spliced (thn (h pos pins s σ H _ I hq) fun us s1 ⟨xs, H1, I1, r, z, q⟩ => ⟨by rw [← r.length]; exact z, ?_⟩)
  have hf : H1 s1.heap.objs.size = none := I1.hok.fresh (Nat.le_refl _)
  refine ⟨.ref s1.heap.objs.size, upd H1 s1.heap.objs.size (.lst xs), I1.laid (t' := s1.toks) (fun b u e => Heap.get?_push_of_some _ e) (Nat.le_refl _) ?_, rfl, q _ hf⟩
  exact ⟨z, us, 0, r, Heap.get?_push_size _ rfl⟩
end
abbrev Sp := List V → Hp → VK → XK → Prop
abbrev CXT := List Env → Hp → Shared → XK → Value → Shared → Prop
structure Env0 (P : Program) (w : World) (K : PySem.W.Frag) (mg : Str → Option Value) (base : Heap) (A : Around) (outer : List Env) (s : Shared) (H : Hp) : Prop where
  frames : A.frames = some outer
  mod : Mod K mg base
  bs : ∀ b o, base.get? b = some o → s.heap.get? b = some o ∧ H b = none
  bsz : base.objs.size ≤ s.heap.objs.size
  funs : s.heap.FunFrames base outer
  frf : ∀ b ∈ frs outer, H b = none
  hok : HOk P w H s.heap
  bare : AllBare s.gens
def CE (outer : List Env) (P : Program) (w : World) (H : Hp) (s : Shared) (Q : VK) (u : Value) (s' : Shared) : Prop :=
  ∃ v H', s'.os = s.os ∧ AllBare s'.gens ∧ Un (frs outer) [] H H' s.heap s'.heap ∧ HOk P w H' s'.heap ∧ RelV v u ∧ Q v H'
def CR (CX : CXT) (outer : List Env) (P : Program) (w : World) (H : Hp) (s : Shared) (Q : VK) (E : XK) (r : Result) (s' : Shared) : Prop :=
  match r with
  | .ok (.ret u) => CE outer P w H s Q u s'
  | .ok _ => False
  | .error e => CX outer H s E e s'
structure FnOk (P : Program) (w : World) (K : PySem.W.Frag) (mg : Str → Option Value) (base : Heap) (CX : CXT) (k : Nat) (f : Addr) (fd : FuncData) (ps : List Str) (sp : Sp) : Prop where
  len : ∀ vs H Q E, sp vs H Q E → vs.length = ps.length
  run : ∀ (A : Around) (outer : List Env) (s : Shared) (H : Hp) (args : Args) (us : List Value) (vs : List V) (Q : VK) (E : XK), Room k A → Env0 P w K mg base A outer s H → BindsTo s fd args (ps.zip us) → Vals vs us → sp vs H Q E →
    codeAny (model P w) A (.call (.ref f) args) (CR CX outer P w H s Q E) s
section
variable {X : Cx} {pins : List (Addr × Obj)} {σ : St} {H : Hp} {s s' : Shared}
theorem Inv.env0 (I : Inv X pins σ H s) : Env0 X.prog X.w X.K X.mg X.base X.A X.stack s H :=
  ⟨I.ok.frames, I.ok.mod, I.bs, Nat.le_trans I.ok.bsz I.sz, I.stack, I.stkFree, I.hok, I.bare⟩
theorem Inv.after {Q : VK} {u : Value} (I : Inv X pins σ H s) (h : CE X.stack X.prog X.w H s Q u s') : EP X pins σ Q u s' := by
  obtain ⟨v, H', os, bare, un, hok, r, q⟩ := h
  obtain ⟨hh, g, d, t, os'⟩ := s'
  obtain rfl : os' = s.os := os
  exact ⟨v, H', I.call (h' := hh) (g' := g) (d' := d) (t' := t) (ch := []) un hok bare (fun b z => absurd z (by simp)), r, q⟩
end
def Binds (K : PySem.W.Frag) (fd : FuncData) (ps : List Str) (ds : List Value) : Prop :=
  ∀ (s : Shared) (us : List Value), K.In s.heap → (us ++ ds).length = ps.length → BindsTo s fd ⟨us, []⟩ (ps.zip (us ++ ds))
theorem Binds.all {K : PySem.W.Frag} {fd : FuncData} {ps : List Str} (h : ∀ us : List Value, us.length = ps.length → bindArgs fd ⟨us, []⟩ = pure (ps.zip us)) : Binds K fd ps [] := fun s us _ hl => by
  rw [List.append_nil] at hl ⊢
  exact .of_eq (h us hl)
section
variable {X : Cx} {CX : CXT} {k : Nat} {f C : Addr} {fd : FuncData} {ps : List Str} {sp : Sp} {dvs : List V} {ds : List Value} {E : XK} {x m : Str} {p pos apos : Pos} {e o : Expr} {es : List Expr} {ta : TE} {t : TA}
end
section
variable {X : Cx} {CX : CXT} {k : Nat} {f C : Addr} {fd : FuncData} {ps ks : List Str} {sp : Sp} {E : XK} {x m : Str} {p pos apos kpos : Pos} {e o : Expr} {es : List Expr} {kws : List Keyword} {te ta : TE} {t tk : TA} {nm : Option Str}
variable {g : List Value → List Value → List Value} {gV : List V → List V → List V}
end
structure FnScope (N P : List Str) (sc : Scope) : Prop where
  kind : sc.kind = .function
  co : sc.isCoroutine = false
  gen : sc.isGenerator = false
  nd : N.Nodup
  pre : N.take P.length = P
  par : ∀ x ∈ P, sc.names.lookup x = some .local ∨ sc.names.lookup x = some .cell
  nofree : ∀ y ∈ sc.names, y.2 ≠ .free
theorem bindL_out {kindOf : Str → Option NameKind} {x : Str} : ∀ {binds : List (Str × Value)} {m : Str → Option Value}, (∀ v, (x, v) ∉ binds) → bindL kindOf binds m x = m x
  | [], _, _ => rfl
  | (n, v) :: r, m, h => by
    unfold bindL
    rw [bindL_out fun w hw => h w (List.mem_cons_of_mem _ hw)]
    split
    · have : x ≠ n := by rintro rfl; exact h v List.mem_cons_self
      simp [this]
    · rfl
theorem bindC_out {kindOf : Str → Option NameKind} {x : Str} : ∀ {binds : List (Str × Value)} {m : Str → Option Value}, (∀ v, (x, v) ∉ binds) → bindC kindOf binds m x = m x
  | [], _, _ => rfl
  | (n, v) :: r, m, h => by
    unfold bindC
    rw [bindC_out fun w hw => h w (List.mem_cons_of_mem _ hw)]
    split
    · rfl
    · have : x ≠ n := by rintro rfl; exact h v List.mem_cons_self
      simp [this]
theorem bindL_get {kindOf : Str → Option NameKind} {x : Str} {v : Value} : ∀ {P : List Str} {vs : List Value} {i : Nat} {m : Str → Option Value}, P.Nodup → P[i]? = some x → vs[i]? = some v → kindOf x = some .local →
    bindL kindOf (P.zip vs) m x = some v
  | [], _, _, _, _, h, _, _ => by simp at h
  | _ :: _, [], _, _, _, _, h, _ => by simp at h
  | p :: P, w :: vs, 0, m, nd, h1, h2, hk => by
    simp at h1 h2; subst h1; subst h2
    show bindL kindOf ((p, w) :: P.zip vs) m p = _
    unfold bindL
    rw [bindL_out fun v hv => (List.nodup_cons.mp nd).1 (List.of_mem_zip hv).1, if_pos hk]
    simp
  | p :: P, w :: vs, i + 1, m, nd, h1, h2, hk => by
    show bindL kindOf ((p, w) :: P.zip vs) m x = _
    unfold bindL
    exact bindL_get (i := i) (List.nodup_cons.mp nd).2 (by simpa using h1) (by simpa using h2) hk
theorem bindC_get {kindOf : Str → Option NameKind} {x : Str} {v : Value} : ∀ {P : List Str} {vs : List Value} {i : Nat} {m : Str → Option Value}, P.Nodup → P[i]? = some x → vs[i]? = some v → kindOf x ≠ some .local →
    bindC kindOf (P.zip vs) m x = some v
  | [], _, _, _, _, h, _, _ => by simp at h
  | _ :: _, [], _, _, _, _, h, _ => by simp at h
  | p :: P, w :: vs, 0, m, nd, h1, h2, hk => by
    simp at h1 h2; subst h1; subst h2
    show bindC kindOf ((p, w) :: P.zip vs) m p = _
    unfold bindC
    rw [bindC_out fun v hv => (List.nodup_cons.mp nd).1 (List.of_mem_zip hv).1, if_neg hk]
    simp
  | p :: P, w :: vs, i + 1, m, nd, h1, h2, hk => by
    show bindC kindOf ((p, w) :: P.zip vs) m x = _
    unfold bindC
    exact bindC_get (i := i) (List.nodup_cons.mp nd).2 (by simpa using h1) (by simpa using h2) hk
def start (N : List Str) (vs : List V) : St := vs.map some ++ List.replicate (N.length - vs.length) none
def cxOf (CX : CXT) (P : Program) (w : World) (K : PySem.W.Frag) (mg : Str → Option Value) (base : Heap) (N : List Str) (qual : Str) (scope : Scope) (f : Addr) (cd : Value) (A : Around) (outer : List Env) (s : Shared) (H : Hp) (E : XK) : Cx where
  prog := P
  w := w
  K := K
  mg := mg
  base := base
  A := A.deeper (envOfC qual scope s.heap.objs.size f cd)
  N := N
  s₀ := s
  H₀ := H
  env := envOfC qual scope s.heap.objs.size f cd
  outer := outer
  stack := envOfC qual scope s.heap.objs.size f cd :: outer
  ex := []
  calm := true
  fn := fun _ => true
  pn := []
  xe := fun e s' => wpAny (model P w) (A.deeper (envOfC qual scope s.heap.objs.size f cd)) (leaving (envOfC qual scope s.heap.objs.size f cd) e) (fun _ s'' => CX outer H s E e s'') (fun e' s'' => CX outer H s E e' s'') s'
theorem cell_has {sc : Scope} {n : Nat} {x : Str} (h : sc.names.lookup x = some .cell) : ∃ c, (cellsFrom n sc.names []).lookup x = some c := by
  have q := PySem.W.cellsFrom_some sc.names n [] (.inl h)
  exact Option.isSome_iff_exists.mp q
theorem inv_start {CX : CXT} {P : Program} {w : World} {K : PySem.W.Frag} {mg : Str → Option Value} {base : Heap} {N ps : List Str} {qual : Str} {scope : Scope} {f : Addr} {cd : Value} {A : Around} {outer : List Env} {s s1 : Shared} {H : Hp} {E : XK} {us : List Value} {vs : List V}
    (S : FnScope N ps scope) (hd : A.handled = none) (e0 : Env0 P w K mg base A outer s H) (hl : vs.length = ps.length) (r : Vals vs us)
    (x : InCallC s s.heap.objs.size (bindL (envOfC qual scope s.heap.objs.size f cd).kindOf (ps.zip us) fun _ => none) (cellsFrom (s.heap.objs.size + 1) scope.names []) (bindC (envOfC qual scope s.heap.objs.size f cd).kindOf (ps.zip us) fun _ => none) s1) :
    Inv (cxOf CX P w K mg base N qual scope f cd A outer s H E) [] (start N vs) H s1 := by
  have hpl : ps.length ≤ N.length := by have := congrArg List.length S.pre; rw [List.length_take] at this; omega
  obtain ⟨h1, tk, rfl, hk⟩ := x.done
  have noA : ∀ b : Addr, b ∉ (cxOf CX P w K mg base N qual scope f cd A outer s H E).ex := fun b z => absurd (show b ∈ ([] : List Addr) from z) (by simp)
  refine ⟨⟨e0.mod, S.kind, rfl, rfl, Nat.le_refl _, fun y z c h1 h2 => ?_, fun y hy => ?_, fun y c _ h => ?_, fun _ => hd, Around.frames_deeper e0.frames, .inr ⟨rfl, rfl⟩, fun b z => absurd z (noA b), e0.bs, e0.bsz, fun b _ _ => noA b, fun b z => absurd z (noA b), e0.funs, e0.frf⟩,
    rfl, e0.bare, Un.kept hk, ⟨_, x.toInCall.ns, fun i y v h1 h2 h3 => ?_⟩, fun y c h => ⟨_, x.cell y c h⟩, e0.hok.fresh (Nat.le_refl _), fun y c h => ?_, fun p hp => absurd (show p ∈ ([] : List (Addr × Obj)) from hp) (by simp), e0.hok.kept hk, ?_⟩
  · exact name_of_addr x.apart (PySem.mem_of_lookup h1) (PySem.mem_of_lookup h2)
  · have hy : scope.names.lookup y = some .cell ∨ scope.names.lookup y = some .free := hy
    rcases hy with hy | hy
    · exact cell_has hy
    · exact absurd rfl (S.nofree _ (PySem.mem_of_lookup hy))
  · exact Nat.le_of_lt (x.above y c (PySem.mem_of_lookup h))
  · have hi : i < vs.length := by
      unfold start at h2
      by_cases hi : i < vs.length
      · exact hi
      · rw [List.getElem?_append_right (by simpa using hi)] at h2
        rw [List.getElem?_replicate] at h2
        split at h2 <;> cases h2
    have ha : vs[i]? = some v := by
      unfold start at h2
      rw [List.getElem?_append_left (by simpa using hi), List.getElem?_map] at h2
      cases e : vs[i]? with
      | none => rw [e] at h2; cases h2
      | some a => rw [e] at h2; cases h2; rfl
    obtain ⟨u, hu, rv⟩ := r.get ha
    have hp : ps[i]? = some y := by
      rw [← S.pre, List.getElem?_take_of_lt (by omega)]; exact h1
    have ndP : ps.Nodup := by rw [← S.pre]; exact S.nd.sublist (List.take_sublist _ _)
    refine ⟨u, rv, ?_⟩
    rcases S.par y (List.mem_of_getElem? hp) with k | k
    · exact .inl ⟨k, bindL_get ndP hp hu k⟩
    · obtain ⟨c, e⟩ := cell_has (n := s.heap.objs.size + 1) k
      refine .inr ⟨.inl k, c, e, ?_⟩
      have q := x.cell y c e
      rw [bindC_get ndP hp hu (by show scope.names.lookup y ≠ _; rw [k]; decide)] at q
      exact q
  · exact e0.hok.fresh (Nat.le_of_lt (x.above y c (PySem.mem_of_lookup h)))
  · unfold start
    show _ = N.length
    rw [List.length_append, List.length_map, List.length_replicate]
    omega
theorem fn_of {CX : CXT} {P : Program} {w : World} {K : PySem.W.Frag} {mg : Str → Option Value} {base : Heap} {k : Nat} {f : Addr} {name qual : Str} {params : Arguments} {body : List Stmt} {scope : Scope} {dV kV doc pm cdv ct oc : Value} {an od : Option Addr}
    {osl : Array (Option Value)} {N ps : List Str} {sp : Sp} (lk : K.lookup f = some ⟨oc, od, .func (PySem.W.fnOf name qual params body scope dV kV doc pm an cdv ct), osl⟩) (hcd : PySem.W.codeIn K cdv qual = true) (S : FnScope N ps scope)
    (len : ∀ vs H Q E, sp vs H Q E → vs.length = ps.length)
    (hbody : ∀ (A : Around) (outer : List Env) (s : Shared) (H : Hp) (vs : List V) (Q : VK) (E : XK), Room k (A.deeper (envOfC qual scope s.heap.objs.size f cdv)) → sp vs H Q E →
      ∃ t, PSs (cxOf CX P w K mg base N qual scope f cdv A outer s H E) body t ∧ t { nx := fun _ H' => Q .non H', rt := Q } (start N vs) H) :
    FnOk P w K mg base CX (k + 1) f (PySem.W.fnOf name qual params body scope dV kV doc pm an cdv ct) ps sp := by
  refine ⟨len, fun A outer s H args us vs Q E hr e0 hb r hsp => ?_⟩
  have hl := len _ _ _ _ hsp
  have KX : K.In s.heap := e0.mod.kin.keeps fun b o e => (e0.bs b o e).1
  have lim : s.heap.NoLimit := e0.mod.nolimit.keeps fun b o e => (e0.bs b o e).1
  have hkind : ∀ y ∈ ps.zip us, scope.names.lookup y.1 = some .local ∨ (scope.names.lookup y.1 = some .cell ∧ ((cellsFrom (s.heap.objs.size + 1) scope.names []).lookup y.1).isSome = true) := fun ⟨n, v⟩ hy => by
    rcases S.par n (List.of_mem_zip hy).1 with q | q
    · exact .inl q
    · exact .inr ⟨q, PySem.W.cellsFrom_some _ _ _ (.inl q)⟩
  refine codeAny_call_function hr.depth (KX _ _ lk) rfl S.co S.gen rfl (PySem.W.codeRec_of KX hcd) (hb _ _ _ _ ?_)
  refine wpAny_newFunctionEnv_cells S.kind hkind fun env he s1 x => ?_
  subst he
  refine ⟨lim.keeps x.toInCall.keep, codeAny_func ?_⟩
  obtain ⟨t, ht, hq⟩ := hbody A outer s H vs Q E (hr.deeper _) hsp
  have I : Inv (cxOf CX P w K mg base N qual scope f cdv A outer s H E) [] (start N vs) H s1 := inv_start S hr.hd e0 hl r x
  refine wpAny_mono (ht [] s1 (start N vs) H _ I hq) (fun fl s' hs => ?_) fun e s' hs => hs
  have fin : ∀ {σ' : St} {H' : Hp} {v : V} {u : Value}, Inv (cxOf CX P w K mg base N qual scope f cdv A outer s H E) [] σ' H' s' → RelV v u → Q v H' → CE outer P w H s Q u s' :=
    fun {σ' H' v u} J rv q => ⟨v, H', J.os, J.bare, J.base, J.hok, rv, q⟩
  cases fl with
  | ret u =>
    obtain ⟨v, σ', H', J, rv, q⟩ := hs
    exact fin J rv q
  | next =>
    obtain ⟨σ', H', J, q⟩ := hs
    exact fin (v := V.non) (u := Value.none) J rfl q
  | brk =>
    obtain ⟨_, _, _, q⟩ := hs
    exact False.elim q
  | cont =>
    obtain ⟨_, _, _, q⟩ := hs
    exact False.elim q
end L2
namespace L2
open PySem PySem.Spec PyProof.Rows
section
variable {X : Cx} {x : Str} {p pos : Pos} {e : Expr} {es : List Expr} {t : TA} {id T : String} {r : List V → Hp → VK → Prop}
def tCB (r : List V → Hp → VK → Prop) (t : TA) : TE := fun σ H Q => t σ H fun vs H1 => r vs H1 Q
theorem pe_callB (hc : CallR X (.builtin id) r) (hg : Gl X x) (hm : X.mg x = none) (hv : bootBuiltins x = some (.builtin id)) (ha : PA X (e :: es) t) (hn : x ≠ "__name__" := by decide) (hdb : (x == ("__debug__" : Str)) = false := by decide)
    (he : starEach (e :: es) X.env = (false, eval e X.env) :: starEach es X.env := by rfl) (hpl : (backTo pos (starEach es X.env)).any (·.1) = false := by rfl) : PE X (.Call (.Name x p) (e :: es) [] pos) (tCB r t) := by
  intro pins s σ H Q I h
  refine wpAny_Call_Name_kw (ld_blt I hg hm hv ?_ hn hdb)
  exact PyProof.Rows.callWith_builtin1 (thn (ha pos pins s σ H _ I h) fun us s1 ⟨vs, H1, I1, r1, q1⟩ => hc pins s1 σ H1 vs us Q I1 r1 q1) he hpl
end
end L2
namespace HT
open PySem PyProof.Rows
section
open PySem.SeqAt
open PySem.AutoSeq1 (wpAny_loadPart')
open PySem.MeetsSeq PySem.MeetsSeq2 PySem.MeetsSeq3
end
section
variable {prog : Program} {w : World} {A : Around} {E : Value → Shared → Prop} {s : Shared}
def sIx (n d : Nat) : Option Int → Nat
  | none => d
  | some v => if v < 0 then (v + (n : Int)).toNat else min v.toNat n
end
end HT
namespace L2
open PySem PySem.Spec PyProof.Rows
abbrev TO := St → Hp → (Option Int → Hp → Prop) → Prop
def PO (X : Cx) (e : Option Expr) (t : TO) : Prop :=
  ∀ (pins : List (Addr × Obj)) (s : Shared) (σ : St) (H : Hp) (Q : Option Int → Hp → Prop), Inv X pins σ H s → t σ H Q →
    wpAny (model X.prog X.w) X.A (evalPart e X.env) (fun u s' => ∃ o H', Inv X pins σ H' s' ∧ IsPart u o ∧ Q o H') X.xe s
def tNoPart : TO := fun _ H Q => Q none H
def tPart (t : TE) : TO := fun σ H Q => t σ H fun x H1 => ∃ i, x = .int i ∧ Q (some i) H1
section
variable {X : Cx} {e : Expr} {te : TE} {lo hi : Option Expr} {tl th : TO} {pos p2 : Pos}
theorem po_none : PO X none tNoPart := by
  intro pins s σ H Q I h
  rw [evalPart_none]
  exact wpAny_pure ⟨none, H, I, .none, h⟩
theorem po_some (h : PE X e te) : PO X (some e) (tPart te) := by
  intro pins s σ H Q I hw
  rw [evalPart_some]
  refine thn (h pins s σ H _ I hw) fun u s1 ⟨x, H1, I1, r1, q1⟩ => ?_
  obtain ⟨i, rfl, q⟩ := q1
  obtain ⟨t, rfl⟩ := r1
  exact ⟨some i, H1, I1, .int i t, q⟩
def SlR (X : Cx) (r : V → Option Int → Option Int → Hp → VK → Prop) : Prop :=
  ∀ (pins : List (Addr × Obj)) (s : Shared) (σ : St) (H : Hp) (x : V) (v vl vu : Value) (lo hi : Option Int) (sl : Addr) (Q : VK), Inv X pins σ H s → RelV x v → s.heap.IsSliceOf sl vl vu .none → IsPart vl lo → IsPart vu hi → r x lo hi H Q →
    ∃ T id, typeLookup (.type T) "__getitem__" = pure (some (.builtin id)) ∧ s.TypeIs v T ∧ wpAny (model X.prog X.w) X.A (getItem v (.ref sl)) (EP X pins σ Q) X.xe s
def tSl (r : V → Option Int → Option Int → Hp → VK → Prop) (te : TE) (tl th : TO) : TE := fun σ H Q => te σ H fun x H1 => tl σ H1 fun l H2 => th σ H2 fun u H3 => r x l u H3 Q
theorem pe_slice {r : V → Option Int → Option Int → Hp → VK → Prop} (hr : SlR X r) (he : PE X e te) (hl : PO X lo tl) (hu : PO X hi th) : PE X (.Subscript e (.Slice lo hi none p2) pos) (tSl r te tl th) := by
  intro pins s σ H Q I h
  refine Subscript_ (thn (he pins s σ H _ I h) fun v s1 ⟨x, H1, I1, r1, q1⟩ => ?_)
  refine wpAny_Slice (thn (hl pins s1 σ H1 _ I1 q1) fun vl s2 ⟨l, H2, I2, pl, q2⟩ => thn (hu pins s2 σ H2 _ I2 q2) fun vu s3 ⟨u, H3, I3, pu, q3⟩ => ?_)
  rw [evalPart_none]
  refine wpAny_pure ?_
  have I4 : Inv X pins σ H3 { s3 with heap := s3.heap.push { cls := .type "slice", data := .fields #[vl, vu, .none] } } := I3.kept (t' := s3.toks) fun b ob q => Heap.get?_push_of_some _ q
  obtain ⟨T, id, hT, ht, hg⟩ := hr pins { s3 with heap := s3.heap.push { cls := .type "slice", data := .fields #[vl, vu, .none] } } σ H3 x v vl vu l u s3.heap.objs.size Q I4 r1 (Heap.IsSliceOf.new ..) pl pu q3
  show wpAny (model X.prog X.w) X.A (subscriptTail e (.Slice lo hi none p2) v (.ref s3.heap.objs.size)) (EP X pins σ Q) X.xe { s3 with heap := s3.heap.push { cls := .type "slice", data := .fields #[vl, vu, .none] } }
  exact tail_any (ops := [.ref s3.heap.objs.size, v]) ht hT hg (by with_unfolding_all rfl)
def cutV (xs : List V) (lo hi : Option Int) : List V := (xs.drop (HT.sIx xs.length 0 lo)).take (HT.sIx xs.length xs.length hi - HT.sIx xs.length 0 lo)
theorem cutV_length (xs : List V) (lo hi : Option Int) : (cutV xs lo hi).length ≤ xs.length := by
  unfold cutV
  rw [List.length_take, List.length_drop]
  omega
end
end L2
namespace L2
open PySem PySem.Spec PyProof.Rows
def ixN (n : Nat) (i : Int) : Option Nat := if 0 ≤ i then (if i < n then some i.toNat else none) else if -(n : Int) ≤ i then some (i + n).toNat else none
def atI {α : Type} (xs : List α) (i : Int) : Option α := (ixN xs.length i).bind fun j => xs[j]?
theorem ixN_seq {n : Nat} {i : Int} {j : Nat} (h : ixN n i = some j) : seqIndex? i n = some j ∧ j < n ∧ -(n : Int) ≤ i ∧ i < n := by
  unfold ixN at h
  by_cases h0 : 0 ≤ i
  · rw [if_pos h0] at h
    by_cases h1 : i < n
    · rw [if_pos h1] at h
      have e : i.toNat = j := Option.some.inj h
      exact ⟨by rw [seqIndex_of h0 h1, e], by omega, by omega, h1⟩
    · rw [if_neg h1] at h; cases h
  · rw [if_neg h0] at h
    by_cases h1 : -(n : Int) ≤ i
    · rw [if_pos h1] at h
      have e : (i + n).toNat = j := Option.some.inj h
      exact ⟨by rw [seqIndex_neg (by omega) h1, e], by omega, h1, by omega⟩
    · rw [if_neg h1] at h; cases h
theorem atI_get {α : Type} {xs : List α} {i : Int} {v : α} (h : atI xs i = some v) : ∃ j, seqIndex? i xs.length = some j ∧ xs[j]? = some v ∧ j < xs.length ∧ -(xs.length : Int) ≤ i ∧ i < xs.length := by
  unfold atI at h
  cases e : ixN xs.length i with
  | none => rw [e] at h; cases h
  | some j =>
    rw [e] at h
    obtain ⟨h1, h2, h3, h4⟩ := ixN_seq e
    exact ⟨j, h1, h, h2, h3, h4⟩
theorem atI_nat {α : Type} {xs : List α} {j : Nat} {v : α} (h : xs[j]? = some v) : atI xs (j : Int) = some v := by
  have hj : j < xs.length := (List.getElem?_eq_some_iff.mp h).1
  have e : ixN xs.length (j : Int) = some j := by
    unfold ixN
    rw [if_pos (by omega), if_pos (by omega)]; simp
  unfold atI; rw [e]; exact h
def PlainIx (b : Expr) : Prop := ∀ o i, subscripted b false o i = operate [o, i] (getItem o i)
def IxR (X : Cx) (r : R2) : Prop :=
  ∀ (value slice : Expr) (pins : List (Addr × Obj)) (s : Shared) (σ : St) (H : Hp) (x y : V) (v u : Value) (Q : VK), Inv X pins σ H s → RelV x v → RelV y u → r x y H Q →
    subscripted slice false v u = operate [v, u] (getItem v u) → wpAny (model X.prog X.w) X.A (subscriptTail value slice v u) (EP X pins σ Q) X.xe s
def MtR (X : Cx) (id : String) (r : V → List V → Hp → VK → Prop) : Prop :=
  ∀ (pins : List (Addr × Obj)) (s : Shared) (σ : St) (H : Hp) (x : V) (xs : List V) (v : Value) (us : List Value) (Q : VK), Inv X pins σ H s → RelV x v → Vals xs us → r x xs H Q →
    wpAny (model X.prog X.w) X.A (call (.builtin id) (v :: us)) (EP X pins σ Q) X.xe s
section
variable {X : Cx} {a b : Expr} {ta tb : TE} {pos : Pos}
theorem pe_ix {r : R2} (hr : IxR X r) (ha : PE X a ta) (hb : PE X b tb) (hs : PlainIx b) : PE X (.Subscript a b pos) (tOp r ta tb) := by
  intro pins s σ H Q I h
  exact Subscript_ (binT ha hb I h fun v u s2 x y H2 I2 rx ry q => hr a b pins s2 σ H2 x y v u Q I2 rx ry q (hs _ _))
def rIxL (K : PySem.W.Frag) : R2 := fun x y H Q => ∃ p xs i v, x = .ref p ∧ y = .int i ∧ SqL K H p xs ∧ atI xs i = some v ∧ Q v H
def rIxS : R2 := fun x y H Q => ∃ z i c, x = .str z ∧ y = .int i ∧ z.length ≤ sizeLine ∧ atI z.cps.toList i = some c ∧ Q (.str ⟨#[c]⟩) H
theorem ix_list : IxR X (rIxL X.K) := by
  intro value slice pins s σ H x y v u Q I rx ry h hs
  obtain ⟨p, xs, i, z, rfl, rfl, hq, he, q⟩ := h
  cases rx
  obtain ⟨t, rfl⟩ := ry
  obtain ⟨its, r, pl, hz⟩ := I.list hq
  obtain ⟨j, h1, h2, h3, h4, h5⟩ := atI_get he
  obtain ⟨w, ew, rw'⟩ := r.get h2
  have hl := r.length
  have hn := line63
  have fin : EP X pins σ Q w s := ⟨z, H, I, rw', q⟩
  by_cases h0 : 0 ≤ i
  · have hj : i.toNat = j := by
      rw [seqIndex_of h0 h5] at h1
      exact Option.some.inj h1
    exact item_listR pl.isList h0 (by omega) (by rw [hj]; simpa using ew) fin hs
  · have hj : (i + (its.toArray.size : Int)).toNat = j := by
      rw [seqIndex_neg (by omega) h4] at h1
      rw [List.size_toArray, ← hl]
      exact Option.some.inj h1
    exact subscriptTail_builtinR (x := w) pl.isList.typeIs slot_list_getitem.lookup
      (wpAny_getItem_list_neg (Q := fun r s' => r = w ∧ EP X pins σ Q r s') pl.isList (by omega) (by rw [List.size_toArray] <;> omega) (by omega) (by rw [hj]; simpa using ew) ⟨rfl, fin⟩) hs
theorem ix_str : IxR X rIxS := by
  intro value slice pins s σ H x y v u Q I rx ry h hs
  obtain ⟨z, i, c, rfl, rfl, hz, he, q⟩ := h
  obtain ⟨t, rfl⟩ := rx
  obtain ⟨t', rfl⟩ := ry
  obtain ⟨j, h1, h2, h3, h4, h5⟩ := atI_get he
  have hl : z.cps.toList.length = z.length := by simp [Str.length]
  rw [hl] at h1 h4 h5
  have hn := line63
  exact tail_any (typeIs_str s z t) slot_str_getitem.lookup (getItem_str (c := c) (by
    have e1 : decide (i < -(2 ^ 63 : Int)) = false := decide_eq_false (by omega)
    have e2 : decide (i ≥ 2 ^ 63) = false := decide_eq_false (by omega)
    rw [e1, e2, Bool.or_false]) (by rw [h1]; simpa using h2) ⟨.str ⟨#[c]⟩, H, I.tok _, ⟨_, rfl⟩, q⟩) hs
theorem slice_bounds (lo hi : Option Int) (n : Nat) : (sliceBounds lo hi none n).1 = ((HT.sIx n 0 lo : Nat) : Int) ∧ (sliceBounds lo hi none n).2.1 = ((HT.sIx n n hi : Nat) : Int) ∧ (sliceBounds lo hi none n).2.2 = 1 := by
  refine ⟨?_, ?_, rfl⟩
  · cases lo with
    | none => simp [sliceBounds, HT.sIx]
    | some i =>
      simp only [sliceBounds, HT.sIx, Option.getD_none, show (1 : Int) > 0 by decide, if_true]
      by_cases h : i < 0
      · simp only [h, if_true] <;> omega
      · simp only [h, if_false] <;> omega
  · cases hi with
    | none => simp [sliceBounds, HT.sIx]
    | some i =>
      simp only [sliceBounds, HT.sIx, Option.getD_none, show (1 : Int) > 0 by decide, if_true]
      by_cases h : i < 0
      · simp only [h, if_true] <;> omega
      · simp only [h, if_false] <;> omega
theorem slicePick_cut (its : List Value) (lo hi : Option Int) : slicePick its.toArray lo hi none = ((its.drop (HT.sIx its.length 0 lo)).take (HT.sIx its.length its.length hi - HT.sIx its.length 0 lo)).toArray := by
  obtain ⟨h1, h2, h3⟩ := slice_bounds lo hi its.toArray.size
  unfold slicePick
  rw [h1, h2, h3]
  simp only [sliceRange_one, pick_run, List.size_toArray] <;> rfl
def rSlL (K : PySem.W.Frag) : V → Option Int → Option Int → Hp → VK → Prop := fun x lo hi H Q => ∃ a xs, x = .ref a ∧ SqL K H a xs ∧ ∀ p, H p = none → Q (.ref p) (upd H p (.lst (cutV xs lo hi)))
theorem sl_list : SlR X (rSlL X.K) := by
  intro pins s σ H x v vl vu lo hi sl Q I rx hs pl pu h
  obtain ⟨a, xs, rfl, hx, q⟩ := h
  cases rx
  obtain ⟨its, r, ht, hz⟩ := I.list hx
  have hlen := r.length
  refine ⟨"list", _, slot_list_getitem.lookup, ht.isList.typeIs, ?_⟩
  refine wpAny_getItem_list_slice ht.isList hs pl pu .none (by simp) ?_ (by rw [List.size_toArray] <;> omega)
  rw [slicePick_cut, ← hlen]
  refine ⟨.ref s.heap.objs.size, _, I.laid (t' := s.toks) (o := .lst (cutV xs lo hi)) (fun b ob q => Heap.get?_push_of_some _ q) (Nat.le_refl _) ?_, rfl, q _ (I.hok.fresh (Nat.le_refl _))⟩
  exact ⟨Nat.le_trans (cutV_length xs lo hi) hz, _, 0, (r.drop (HT.sIx xs.length 0 lo)).take (HT.sIx xs.length xs.length hi - HT.sIx xs.length 0 lo), Heap.get?_push_size _ rfl⟩
theorem op_notIn_str : OpR X (compareOp .NotIn) (fun x y H Q => ∃ i j, x = .str i ∧ y = .str j ∧ Q (.bl (!(!(Builtin.Str.occurrences j i 0 j.length 1).isEmpty))) H) := by
  intro pins s σ H x y v u Q I rx ry h
  obtain ⟨i, j, rfl, rfl, q⟩ := h
  obtain ⟨t, rfl⟩ := rx
  obtain ⟨t', rfl⟩ := ry
  exact notIn_str ⟨.bl _, H, I, rfl, q⟩
theorem call_len_str : CallR X (.builtin "len") (fun xs H Q => ∃ z, xs = [.str z] ∧ z.length ≤ sizeLine ∧ Q (.int z.length) H) := by
  intro pins s σ H xs us Q I r h
  obtain ⟨z, rfl, hz, q⟩ := h
  obtain ⟨u, rfl, t, rfl⟩ := vals1 r
  have hn := line63
  exact len_str (by omega) ⟨.int z.length, H, I.tok _, ⟨_, rfl⟩, q⟩
def tyV (K : PySem.W.Frag) (T : String) (x : V) (H : Hp) : Prop := match x with
  | .str _ => T = "str"
  | .int _ => T = "int"
  | .ref p => (T = "list" ∧ ∃ xs, SqL K H p xs) ∨ (T = "tuple" ∧ ∃ o, K.lookup p = some o ∧ o.cls = .type "tuple" ∧ o.dict = none) ∨
      (T = "dict" ∧ ((∃ kvs, H p = some (.dK kvs)) ∨ ∃ kvs, H p = some (.dT kvs))) ∨ (T = "set" ∧ ∃ S n, H p = some (.set S n))
  | _ => False
theorem tyV_is {pins : List (Addr × Obj)} {σ : St} {H : Hp} {s : Shared} {T : String} {x : V} {v : Value} (I : Inv X pins σ H s) (r : RelV x v) (ty : tyV X.K T x H) :
    s.TypeIs v T ∧ ∀ a, v = .ref a → ∃ ob, s.heap.get? a = some ob ∧ ob.dict = none := by
  cases x with
  | str z =>
    obtain ⟨t, rfl⟩ := r
    cases (show T = "str" from ty)
    exact ⟨typeIs_str s z t, fun _ e => nomatch e⟩
  | int i =>
    obtain ⟨t, rfl⟩ := r
    cases (show T = "int" from ty)
    exact ⟨typeIs_int s i t, fun _ e => nomatch e⟩
  | ref p =>
    cases r
    rcases ty with ⟨rfl, xs, hq⟩ | ⟨rfl, o, hk, hc, hd⟩ | ⟨rfl, hk⟩ | ⟨rfl, S, n, hk⟩
    · obtain ⟨its, _, pl, _⟩ := I.list hq
      refine ⟨pl.isList.typeIs, fun a e => ?_⟩
      cases e
      obtain ⟨o, n, e, c, hd, _⟩ := pl
      exact ⟨o, e, hd⟩
    · refine ⟨⟨o, I.kIn p o hk, hc⟩, fun a e => ?_⟩
      cases e
      exact ⟨o, I.kIn _ o hk, hd⟩
    · have z : ∃ o, s.heap.get? p = some o ∧ o.ExactDict := by
        rcases hk with ⟨kvs, hk⟩ | ⟨kvs, hk⟩
        · obtain ⟨_, _, _, _, o, _, _, e, ex, _⟩ := I.hok p _ hk
          exact ⟨o, e, ex⟩
        · obtain ⟨_, _, _, _, o, _, _, e, ex, _⟩ := I.hok p _ hk
          exact ⟨o, e, ex⟩
      obtain ⟨o, e, ex⟩ := z
      refine ⟨⟨o, e, ex.1⟩, fun a e2 => ?_⟩
      cases e2
      exact ⟨o, e, ex.2.1⟩
    · obtain ⟨o, _, _, _, e, ex, _⟩ := I.hok p _ hk
      refine ⟨⟨o, e, ex.1⟩, fun a e2 => ?_⟩
      cases e2
      exact ⟨o, e, ex.2.1⟩
  | _ => exact False.elim ty
def tBM (K : PySem.W.Frag) (T : String) (r : V → List V → Hp → VK → Prop) (to : TE) (t : TA) : TE := fun σ H Q => to σ H fun x H1 => tyV K T x H1 ∧ t σ H1 fun xs H2 => r x xs H2 Q
variable {o e : Expr} {es : List Expr} {to : TE} {t : TA} {name : Str} {apos cpos : Pos} {T id : String} {r : V → List V → Hp → VK → Prop}
theorem pe_bm (pa : PlainAttrs T) (slot : Slot T name id) (hty : typeOf (.builtin id) = pure (.type "method_descriptor")) (hm : MtR X id r) (ho : PE X o to) (ha : PA X (e :: es) t)
    (hbase : attributeBase o name X.env (eval o X.env) = eval o X.env := by rfl)
    (hfew : ((backTo cpos (starEach (e :: es) X.env)).all (fun x => !x.1) && (backToKw cpos (keywordEach [] X.env)).all (fun x => x.1.isSome)
      && decide ((e :: es).length + ([] : List Keyword).length + (if ([] : List Keyword).isEmpty then 0 else 1) < 30)) = true := by rfl)
    (hline : (apos.endLine == cpos.line) = true := by rfl) (hs : starEach (e :: es) X.env = (false, eval e X.env) :: starEach es X.env := by rfl) (hplain : (backTo cpos (starEach es X.env)).any (·.1) = false := by rfl) :
    PE X (.Call (.Attribute o name apos) (e :: es) [] cpos) (tBM X.K T r to t) := by
  intro pins s σ H Q I h
  refine wpAny_Call_method_late hbase hfew hline rfl (thn (ho pins s σ H _ I h) fun v s1 ⟨x, H1, I1, r1, ty, q1⟩ => ?_)
  obtain ⟨h1, h2⟩ := tyV_is I1 r1 ty
  refine ⟨T, id, pa, slot, hty, h1, h2, ?_⟩
  have hA := ha cpos pins s1 σ H1 _ I1 q1
  rw [hs] at hA ⊢
  refine Calls.callWith_builtin (by show (false || (backTo cpos (starEach es X.env)).any (·.1)) = false; rw [hplain] <;> rfl) (Calls.evalArgs_plain ?_)
  exact thn hA fun us s2 ⟨vs, H2, I2, r2, q2⟩ => hm pins s2 σ H2 x vs v us Q I2 r1 r2 q2
end
end L2
namespace L2
open PySem PySem.Spec PyProof.Rows
def MtM (X : Cx) (id : String) (r : V → List V → Hp → VK → Prop) : Prop :=
  ∀ (pins : List (Addr × Obj)) (s : Shared) (σ : St) (H : Hp) (x : V) (xs : List V) (v : Value) (us : List Value) (Q : VK), Inv X pins σ H s → RelV x v → Vals xs us → r x xs H Q →
    wpAny (model X.prog X.w) X.A (call (.builtin id) (v :: us)) (EP X pins σ Q) X.xe s
theorem Vals.one : ∀ {x : V} {us : List Value}, Vals [x] us → ∃ u, us = [u] ∧ RelV x u
  | _, _, .cons r .nil => ⟨_, rfl, r⟩
section
variable {X : Cx} {pins : List (Addr × Obj)} {σ : St} {H : Hp} {s : Shared} {l b : Addr} {xs ys zs : List V}
theorem Inv.lset {its its' : List Value} {n : Nat} {f : Array Value → Array Value} {t' : Nat} (I : Inv X pins σ H s) (hH : H l = some (.lst xs))
    (e : s.heap.get? l = some { cls := .type "list", data := .seq its.toArray n }) (hf : f its.toArray = its'.toArray) (hv : Vals ys its') (hz : ys.length ≤ sizeLine) :
    Inv X pins σ (upd H l (.lst ys)) { s with heap := s.heap.update l (Obj.mapSeq f), toks := t' } := by
  have q := PySem.IsL.update e f
  rw [hf] at q
  refine I.write (x := l) (e := l) (by rw [hH]; exact trivial) (.inl rfl) (fun b' u hb hu => (Heap.get?_update_other s.heap (Obj.mapSeq f) (Ne.symm hb)).trans hu) ⟨_, q⟩ ?_
  exact ⟨hz, its', _, hv, q⟩
theorem Inv.lnew {its : List Value} {t' : Nat} (I : Inv X pins σ H s) (hv : Vals ys its) (hz : ys.length ≤ sizeLine) :
    Inv X pins σ (upd H s.heap.objs.size (.lst ys)) { s with heap := s.heap.push { cls := .type "list", data := .seq its.toArray }, toks := t' } :=
  I.laid (fun _ _ q => Heap.get?_push_of_some _ q) (Nat.le_refl _) ⟨hz, its, 0, hv, Heap.get?_push_size _ rfl⟩
theorem Inv.fresh (I : Inv X pins σ H s) : H s.heap.objs.size = none := I.hok.fresh (Nat.le_refl _)
theorem Inv.lstM (I : Inv X pins σ H s) (hH : H l = some (.lst xs)) : xs.length ≤ sizeLine ∧ ∃ (its : List Value) (n : Nat), Vals xs its ∧ xs.length = its.length ∧ s.heap.get? l = some { cls := .type "list", data := .seq its.toArray n } := by
  obtain ⟨z, its, n, r, e⟩ := I.hok l _ hH
  exact ⟨z, its, n, r, r.length, e⟩
end
section
variable {X : Cx}
def rAppend : V → List V → Hp → VK → Prop := fun x vs H Q => ∃ l xs y, x = .ref l ∧ vs = [y] ∧ H l = some (.lst xs) ∧ xs.length < sizeLine ∧ Q .non (upd H l (.lst (xs ++ [y])))
theorem mt_append : MtM X "list.append" rAppend := by
  intro pins s σ H x vs v us Q I rx rv h
  obtain ⟨l, xs, y, rfl, rfl, hH, hz, q⟩ := h
  cases rx
  obtain ⟨u, rfl, ru⟩ := rv.one
  obtain ⟨z, its, n, r, hl, e⟩ := I.lstM hH
  refine call_meets F.slot_list_append ⟨_, e, rfl⟩ F.entry_list_append (F.args_list_append_2 _ _) (PySem.list_append l its.toArray n u (by rw [List.size_toArray]; omega)) ⟨e, ?_⟩
  refine ⟨.non, _, I.lset (its' := its ++ [u]) hH e (by simp) (r.append (.cons ru .nil)) ?_, rfl, q⟩
  rw [List.length_append, List.length_singleton]
  omega
end
section
variable {prog : Program} {w : World} {A : Around} {E : Value → Shared → Prop} {s : Shared}
end
section
variable {X : Cx}
end
end L2
namespace Att
open PySem PySem.W PySem.Calls PyProof.Rows
theorem ints_of_wellAll {P : Params} {h : Heap} : ∀ (ns : List Int) (vs : List Value), WellAll P h vs (ns.map WData.int) → IntsAre vs ns := by
  intro ns
  induction ns with
  | nil =>
    intro vs w
    rw [List.map_nil] at w
    cases w
    exact .nil
  | cons n ns ih =>
    intro vs w
    rw [List.map_cons] at w
    cases w with
    | cons a b =>
      cases a
      exact .cons _ _ (ih _ b)
theorem script_of {l : OpenLaw} {n : Nat} (hn : l.most = some n) {P : Params} {h : Heap} {args : List WData} {vals : List Value}
    (hpre : l.row.toRowW.claim.pre args = true) (hwl : WellAll P h vals args) :
    ∃ a vs ns, vals = [Value.ref a] ∧ args = [WData.list (ns.map WData.int)] ∧ h.get? a = some { cls := .type "list", data := .seq vs.toArray } ∧ IntsAre vs ns ∧ ns.length ≤ n := by
  have hsh : WShape.hasAll [] args [.list .int] = true := (pre_splitW hpre).1
  have hc : l.pre.holds [] { args := args } = true := (pre_splitW hpre).2
  obtain ⟨d, r, rfl, h1, h2⟩ := hasAllW_cons hsh
  obtain rfl := hasAllW_nil h2
  obtain ⟨xs, rfl, h3⟩ := hasW_list h1
  obtain ⟨ns, rfl⟩ := items_int h3
  have hlen : ns.length ≤ n := by
    unfold OpenLaw.pre at hc
    have h4 : (WTm.not (.lt (.lit (.int (n : Int))) (.len (.arg 0)))).holds [] { args := [.list (ns.map .int)] } = true := by
      have h4 := (holds_andW hc).1
      rw [hn] at h4
      exact h4
    have h5 := condW_of h4 (w_not (w_lt w_lit (w_len_list (w_arg rfl))))
    rw [List.length_map] at h5
    refine Nat.le_of_not_lt fun q => ?_
    have q' : (n : Int) < ((ns.length : Nat) : Int) := by omega
    first
      | (rw [decide_eq_true q'] at h5; exact absurd h5 (by decide))
      | (simp at h5; omega)
  cases hwl with
  | cons w1 w2 =>
    cases w2
    cases w1 with
    | list ho hall => exact ⟨_, _, ns, rfl, rfl, ho, ints_of_wellAll ns _ hall, hlen⟩
theorem post_true (l : OpenLaw) (args : List WData) : l.row.toRowW.claim.post args (.bool true) args = true :=
  postW_of (r := l.row.toRowW) (X := (true == true))
    (show WShape.has [] (.bool true) .bool = true by first | rfl | decide | simp [WShape.has, WShape.arms, WShape.armsAll])
    (show (WTm.eq .res (.lit (.bool true))).value [] { args := args, res := some (.bool true), after := args } = some (.bool (true == true)) from w_eq_bool (w_res rfl) w_lit) rfl
theorem attach_call {l : OpenLaw} {n : Nat} {q : Program} {loose : List Str} {XP : (Str → Option Value) → Heap → Prop} {YP : World → Heap → Prop} {d : DefRec}
    (hn : l.most = some n) (hdf : d.params.defaults = [])
    (call : ∀ (w : World) (s₀ s₁ : Shared) (mg mb : Str → Option Value) (fa : Addr) (o : Obj) (pm cd doc : Value) (a : Addr) (vs : List Value) (ns : List Int),
      Ground q loose [] XP w s₀ mg mb s₁.heap → YP w s₁.heap →
      s₁.heap.get? fa = some o → o.data = .func (docDef d.name d.params d.body d.scope pm cd doc) → s₁.heap.CodeRec cd d.name → mg d.name = some (.ref fa) →
      s₁.heap.get? a = some { cls := .type "list", data := .seq vs.toArray } → IntsAre vs ns → ns.length ≤ n → s₁.gens = #[] →
      codeAny (model l.prog w) callerA (.call (.ref fa) ⟨[.ref a], []⟩) (fun r s' => r = .ok (.ret (.bool true)) ∧ OldK s₁.heap s'.heap ∧ s'.os = s₁.os ∧ AllBare s'.gens) s₁) :
    WalkO q loose XP YP l.row.toRowW d [] (fun f vs => PySem.call f vs) := by
  intro w s₀ s₁ mg mb G Y fa o pm cd doc dV kV ho hd hcd hD hmg hg args vals as hpre hlay hrd hwl hlo
  obtain rfl : dV = .none := Dflts.none hD hdf
  obtain rfl : kV = .none := Dflts.noKw hD
  obtain ⟨a, vs, ns, rfl, rfl, hobj, hints, hlen⟩ := script_of hn hpre hwl
  refine enter_call (codeAny_mono (call w s₀ s₁ mg mb fa o pm cd doc a vs ns G Y ho (fd_plain hd) hcd hmg hobj hints hlen hg) fun r s' hq => ?_)
  obtain ⟨rfl, h2, h3, h4⟩ := hq
  exact ⟨.inl ⟨.bool true, .bool true, [], rfl, fun _ => rfl, .bool true, post_true l _, fun _ => ⟨List.Pairwise.nil, fun _ hm => (nomatch hm)⟩⟩, h2, h3, h4⟩
section
variable {prog : Program} {w : World} {A : Around} {E : Value → Shared → Prop} {s : Shared} {K : Frag}
end
end Att
namespace L2
open PySem PySem.Spec PyProof.Rows
theorem vals_ints : ∀ {vs : List Value} {ns : List Int}, IntsAre vs ns → Vals (ns.map V.int) vs
  | _, _, .nil => .nil
  | _, _, .cons n t h => .cons ⟨t, rfl⟩ (vals_ints h)
def Only (H : Hp) : Prop := ∀ b, H b = none ∨ ∃ o xs, H b = some (.frz o (.lst xs))
theorem law_call {P : Program} {w : World} {K : PySem.W.Frag} {mg mb : Str → Option Value} {CX : CXT} {k : Nat} {fa a : Addr} {fd : FuncData} {x : Str} {sp : Sp} {s₁ : Shared} {vs : List Value} {ns : List Int}
    (KX : K.In s₁.heap) (hns : s₁.heap.Ns mainGlobals mg) (hb : s₁.heap.Ns builtinsNs mb) (hbb : ∀ x : Str, x ≠ "__name__" → mb x = bootBuiltins x) (hlim : s₁.heap.NoLimit) (hg : s₁.gens = #[])
    (ha : s₁.heap.get? a = some { cls := .type "list", data := .seq vs.toArray }) (hi : IntsAre vs ns) (hl : ns.length ≤ sizeLine) (hr : Room k callerA)
    (F : ∀ base : Heap, K.In base → base.Ns mainGlobals mg → FnOk P w K mg base CX k fa fd [x] sp) (hbind : ∀ (s : Shared) (u : Value), BindsTo s fd ⟨[u], []⟩ [(x, u)])
    (hsp : ∀ H : Hp, Only H → SqL K H a (ns.map V.int) → sp [.ref a] H (fun v _ => v = .bl true) fun _ _ _ => False)
    (hCX : ∀ H e s', CX [] H s₁ (fun _ _ _ => False) e s' → False) :
    codeAny (model P w) callerA (.call (.ref fa) ⟨[.ref a], []⟩) (fun r s' => r = .ok (.ret (.bool true)) ∧ OldK s₁.heap s'.heap ∧ s'.os = s₁.os ∧ AllBare s'.gens) s₁ := by
  have rv := vals_ints hi
  have lenV := hi.length
  have core : ∀ H : Hp, Only H → SqL K H a (ns.map V.int) → HOk P w H s₁.heap → (∀ b, H b ≠ none → b = a) → (H a ≠ none → K.lookup a = none) →
      codeAny (model P w) callerA (.call (.ref fa) ⟨[.ref a], []⟩) (fun r s' => r = .ok (.ret (.bool true)) ∧ OldK s₁.heap s'.heap ∧ s'.os = s₁.os ∧ AllBare s'.gens) s₁ := by
    intro H hO hS hok hA hK
    have base_of : ∀ {b : Addr} {o : Obj}, s₁.heap.get? b = some o → H b = none → (hidT s₁.heap H).get? b = some o := fun e n => hidT_get e n
    have noA : ∀ {b : Addr} {o : Obj} {es : Array DictEntry} {ep : Nat}, s₁.heap.get? b = some o → o.data = .dict es ep → H b = none := fun {b o es ep} e d => by
      cases q : H b with
      | none => rfl
      | some u =>
        have e' : b = a := hA b (by rw [q]; simp)
        subst e'
        rw [ha] at e; cases e
        have d' : Data.seq vs.toArray _ = Data.dict es ep := d
        cases d'
    have nsK : ∀ {b : Addr} {m : Str → Option Value}, s₁.heap.Ns b m → (hidT s₁.heap H).Ns b m := fun {b m} ⟨o, es, ep, e, d, r⟩ => ⟨o, es, ep, base_of e (noA e d), d, r⟩
    have hKb : K.In (hidT s₁.heap H) := fun b o e => base_of (KX b o e) (by
      cases q : H b with
      | none => rfl
      | some u =>
        have e' : b = a := hA b (by rw [q]; simp)
        subst e'
        rw [hK (by rw [q]; simp)] at e; cases e)
    have hM : Mod K mg (hidT s₁.heap H) := ⟨hKb, nsK hns, ⟨mb, nsK hb, hbb⟩, let ⟨mc, h1, h2⟩ := hlim; ⟨mc, nsK h1, h2⟩⟩
    have e0 : Env0 P w K mg (hidT s₁.heap H) callerA [] s₁ H := ⟨rfl, hM, fun b o e => of_hidT e, Nat.le_of_eq (hidT_size _ _), trivial, fun b hb => absurd (show b ∈ ([] : List Addr) from hb) (by simp), hok, .of_eq hg⟩
    refine codeAny_mono ((F _ hKb (nsK hns)).run callerA [] s₁ H ⟨[.ref a], []⟩ [.ref a] [.ref a] _ _ hr e0 (hbind s₁ (.ref a)) (.cons rfl .nil) (hsp H hO hS)) fun r s' h => ?_
    cases r with
    | error e => exact (hCX H e s' h).elim
    | ok fl =>
      cases fl with
      | next => exact False.elim h
      | brk => exact False.elim h
      | cont => exact False.elim h
      | ret u =>
        obtain ⟨v, H', os, bare, un, hok', r', q⟩ := h
        have q' : v = .bl true := q
        subst q'
        obtain rfl : u = Value.bool true := r'
        refine ⟨rfl, OldK.of_keep fun b o e => ?_, os, bare⟩
        cases q : H b with
        | none => exact un.keep b o e q (by intro z; exact absurd (show b ∈ ([] : List Addr) from z) (by simp)) (by simp)
        | some u =>
          rcases hO b with z | ⟨ob, xs, z⟩
          · rw [q] at z; cases z
          · have z2 := un.frzs b ob _ z
            obtain ⟨e1, _⟩ := hok b _ z
            obtain ⟨e2, _⟩ := hok' b _ z2
            rw [e] at e1; cases e1
            exact e2
  cases hk : K.lookup a with
  | some o =>
    have e := KX a o hk
    rw [ha] at e
    cases e
    refine core (fun _ => none) (fun _ => .inl rfl) (.inr ⟨_, vs.toArray, _, hk, rfl, rfl, rfl, by rw [List.size_toArray, lenV]; exact hl, by simpa using rv⟩) (fun b u z => by have z' : (none : Option HO) = some u := z; cases z') (fun b z => absurd rfl z) fun z => absurd rfl z
  | none =>
    refine core (fun b => if b = a then some (.frz { cls := .type "list", data := .seq vs.toArray } (.lst (ns.map V.int))) else none) (fun b => ?_) (.inl (.inr ⟨{ cls := .type "list", data := .seq vs.toArray }, if_pos rfl⟩)) (fun b u z => ?_) (fun b z => ?_) fun _ => hk
    · by_cases hb : b = a
      · exact .inr ⟨_, _, if_pos hb⟩
      · exact .inl (if_neg hb)
    · by_cases hb : b = a
      · have z' := (if_pos hb).symm.trans z
        cases z'
        subst hb
        exact ⟨ha, by rw [List.length_map]; exact hl, vs, _, rv, ha⟩
      · have z' := (if_neg hb).symm.trans z
        cases z'
    · by_cases hb : b = a
      · exact hb
      · exact absurd (if_neg hb) z
end L2
namespace L2
open PySem PySem.Spec PyProof.Rows
theorem walk_of {l : PySem.W.OpenLaw} {n k : Nat} {q : Program} {loose : List Str} {XP : (Str → Option Value) → Heap → Prop} {YP : World → Heap → Prop} {d : DefRec} {K : Params → PySem.W.Frag} {CX : World → CXT} {sp : World → Sp} {x : Str}
    (hn : l.most = some n) (hn2 : n ≤ sizeLine) (hdf : d.params.defaults = []) (hr : Room k callerA)
    (hY : ∀ (w : World) (h : Heap), YP w h → (K w.params).In h)
    (F : ∀ (w : World) (mg : Str → Option Value) (fa : Addr) (h : Heap), (K w.params).In h → h.Ns mainGlobals mg → mg d.name = some (.ref fa) →
      ∃ fd : FuncData, (∀ (s : Shared) (u : Value), BindsTo s fd ⟨[u], []⟩ [(x, u)]) ∧
        ∀ base : Heap, (K w.params).In base → base.Ns mainGlobals mg → FnOk l.prog w (K w.params) mg base (CX w) k fa fd [x] (sp w))
    (hsp : ∀ (w : World) (H : Hp) (a : Addr) (ns : List Int), ns.length ≤ n → Only H → SqL (K w.params) H a (ns.map V.int) → sp w [.ref a] H (fun v _ => v = .bl true) fun _ _ _ => False)
    (hCX : ∀ (w : World) (H : Hp) (s : Shared) (e : Value) (s' : Shared), CX w [] H s (fun _ _ _ => False) e s' → False) :
    PySem.W.WalkO q loose XP YP l.row.toRowW d [] (fun f vs => PySem.call f vs) := by
  refine Att.attach_call hn hdf fun w s₀ s₁ mg mb fa o pm cd doc a vs ns G Y ho hd hcd hmg hobj hints hlen hg => ?_
  have KX := hY w _ Y
  obtain ⟨fd, hb, hF⟩ := F w mg fa _ KX G.T.g hmg
  exact law_call KX G.T.g G.T.b G.T.builtins G.T.nolimit hg hobj hints (Nat.le_trans hlen hn2) hr hF hb (fun H hO hS => hsp w H a ns hlen hO hS) fun H e s' => hCX w H s₁ e s'
end L2
namespace L2
open PySem PySem.Spec PyProof.Rows
def defArgs (s : Stmt) : Arguments := match s with
  | .FunctionDef _ a _ _ _ _ _ _ _ _ => a
  | _ => { posonlyargs := [], args := [], vararg := none, kwonlyargs := [], kw_defaults := [], kwarg := none, defaults := [] }
def defBody (s : Stmt) : List Stmt := match s with
  | .FunctionDef _ _ b _ _ _ _ _ _ _ => b
  | _ => []
def defScope (s : Stmt) : Scope := match s with
  | .FunctionDef _ _ _ _ _ _ sc _ _ _ => sc
  | _ => { kind := .function, names := [], isGenerator := false, isCoroutine := false }
abbrev E0 : XK := fun _ _ _ => False
section
variable {P : Program} {w : World} {K : PySem.W.Frag} {mg : Str → Option Value} {base : Heap}
end
section
variable {X : Cx}
theorem pv (i : Nat) {x : Str} {pos : Pos} (hN : X.N[i]? = some x := by rfl) (hv : Vis X.env.scope x := by first | exact Or.inl rfl | exact Or.inr (Or.inl rfl) | exact Or.inr (Or.inr rfl)) (hd : (x == ("__debug__" : Str)) = false := by decide)
    (hcd : (x == ("__classdict__" : Str)) = false := by decide) : PE X (.Name x pos) (tVar i) := pe_var hN hv hd hcd
end
theorem iteF {A B : Prop} (h : B) : if false = true then A else B := by
  rw [if_neg Bool.false_ne_true]
  exact h
theorem iteT {A B : Prop} (h : A) : if true = true then A else B := by
  rw [if_pos rfl]
  exact h
theorem iteNS {c A B : Prop} [Decidable c] (hc : c) (h : B) : if (!decide c) = true then A else B := by
  rw [decide_eq_true hc]
  exact iteF h
def Same (H H' : Hp) : Prop := ∀ b o, H b = some o → H' b = some o
theorem Same.refl (H : Hp) : Same H H := fun _ _ h => h
theorem Same.trans {H H1 H2 : Hp} (a : Same H H1) (b : Same H1 H2) : Same H H2 := fun c o h => b c o (a c o h)
end L2

namespace L2
open PySem PySem.Spec PyProof.Rows
section
variable {κ : Type} [DecidableEq κ]
end
section
variable {P : Program} {w : World} {H : Hp} {h : Heap} {a : Addr}
end
section
variable {X : Cx} {pins : List (Addr × Obj)} {σ : St} {H : Hp} {s : Shared} {a : Addr} {y v : V} {u r : Value} {o : Option V} {A : Around} {E : Value → Shared → Prop}
end
section
variable {X : Cx} {pins : List (Addr × Obj)} {σ : St} {H : Hp} {s : Shared} {a : Addr} {kvs : List (Key × V)} {k : Key} {u : Value} {A : Around} {E : Value → Shared → Prop}
end
section
variable {X : Cx} {o i e value : Expr} {pos pos' tpos : Pos} {td ty tv : TE}
end
section
variable {X : Cx} {pos : Pos}
end
section
variable {X : Cx} {pins : List (Addr × Obj)} {σ : St} {H : Hp} {s : Shared} {a : Addr} {y d : V} {u r : Value} {o : Option V} {A : Around} {E : Value → Shared → Prop}
end
section
variable {X : Cx} {o e f : Expr} {apos cpos : Pos} {td ty tx : TE}
end
section
variable {X : Cx} {pins : List (Addr × Obj)} {σ : St} {H : Hp} {s : Shared} {a : Addr} {kvs : List (Key × V)} {A : Around} {E : Value → Shared → Prop}
end
section
variable {X : Cx} {pins : List (Addr × Obj)} {σ : St} {H : Hp} {s : Shared} {a : Addr} {y : V} {u : Value} {A : Around} {E : Value → Shared → Prop}
end
end L2
namespace L2
open PySem PySem.Spec PyProof.Rows
section
variable {X : Cx}
end
section
variable {κ : Type} [DecidableEq κ]
end
end L2

set_option maxHeartbeats 4000000
namespace L2
open PySem
def FlyT (h : Heap) (a : Addr) (cls : Value) (dct : Option Addr) (hd : Value) : Prop :=
  ∃ oe vs, h.get? a = some oe ∧ oe.cls = cls ∧ oe.dict = dct ∧ oe.data = .fields vs ∧ vs[1]? = some hd ∧
    (hd = .none ∨ ∃ T oT ts, hd = .ref T ∧ T ≠ a ∧ h.get? T = some oT ∧ oT.data = .fields ts ∧ ts[3]? = some .none)
theorem dict_mapF (o : Obj) (f : Array Value → Array Value) : (o.mapFields f).dict = o.dict := by
  obtain ⟨c, d, dt, sl⟩ := o
  cases dt <;> rfl
section
variable {M : Model} {A : Around} {E : Value → Shared → Prop} {s : Shared}
theorem fly_entry {base : Heap} {env : Env} {outer : List Env} {L a : Addr} {oe : Obj} {vs : Array Value} {hd : Value} {b : Bool} {Q : Unit → Shared → Prop}
    (hfr : A.frames = some (env :: outer)) (hl : s.heap.FunFrames base (env :: outer)) (hf : env.frame = some L) (he : s.heap.get? a = some oe) (hdt : oe.data = .fields vs) (h1 : 1 < vs.size)
    (h : ∀ (h' : Heap) (T : Addr), s.heap.get? T = none → T ≠ a → (∀ b o, b ≠ a → b ∉ (env :: outer).filterMap (·.frame) → s.heap.get? b = some o → h'.get? b = some o) →
      (∀ b o, b ≠ a → s.heap.get? b = some o → ∃ sl, h'.get? b = some { o with slots := sl }) → FlyT h' a oe.cls oe.dict (.ref T) → Q () { s with heap := h' }) :
    wpAny M A (do setField (.ref a) 1 (← EntryCells.newEntry hd (← frameOf env) .none (rawInt L) .none (← entryPlaceOf L b))) (fun _ s' => wpAny M A (setFlight (.ref a) none) Q E s') E s := by
  have na : a ∉ (env :: outer).filterMap (·.frame) := fun hm => by
    obtain ⟨_, o, ho, hn⟩ := hl.mem hm
    rw [he] at ho; cases ho
    exact hn vs hdt
  refine wpAny_bind (wpAny_frameOf_fun hfr hl hf fun h₁ hs => ?_)
  refine wpAny_bind (wpAny_entryPlaceOf fun pl hpl => ?_)
  unfold EntryCells.newEntry newFields
  refine wpAny_bind (wpAny_newObj_type ?_ (hpl.sizeOk5 _ _ _ _ _))
  generalize hts : ([hd, Value.ref L, Value.none, rawInt L, Value.none] ++ (if pl.isEmpty then List.replicate 6 Value.none else pl)).toArray = ts
  have hsz : 3 < ts.size := by
    rw [← hts]
    simp only [List.size_toArray, List.length_append, List.length_cons, List.length_nil]
    omega
  have e1 : h₁.get? a = some oe := (hs.2.1 a na).trans he
  have lt1 : h₁.objs.size ≠ a := Nat.ne_of_gt (Heap.lt_size e1)
  have e2 : (h₁.push { cls := .type "traceback", dict := none, data := .fields ts }).get? a = some oe := Heap.get?_push_of_some _ e1
  refine wpAny_setField e2 hdt h1 ?_
  have d3 := Obj.data_mapFields hdt (·.setIfInBounds 1 (Value.ref h₁.objs.size))
  have e3 := Heap.get?_update_self (Obj.mapFields (·.setIfInBounds 1 (Value.ref h₁.objs.size))) e2 (Obj.isFreed_of_fields d3)
  have t3 : ((h₁.push { cls := .type "traceback", dict := none, data := .fields ts }).update a (Obj.mapFields (·.setIfInBounds 1 (Value.ref h₁.objs.size)))).get? h₁.objs.size = some { cls := .type "traceback", dict := none, data := .fields ts } := by
    rw [Heap.get?_update_other _ _ (Ne.symm lt1)]
    exact Heap.get?_push_size h₁ rfl
  unfold setFlight
  refine wpAny_bind (wpAny_field e3 d3 (x := .ref h₁.objs.size) (by simp [h1]) ?_)
  rw [if_pos (show (Value.ref h₁.objs.size != Value.none) = true by simp)]
  refine wpAny_setField t3 rfl hsz ?_
  have keep : ∀ b o, b ≠ a → h₁.get? b = some o → (((h₁.push { cls := .type "traceback", dict := none, data := .fields ts }).update a (Obj.mapFields (·.setIfInBounds 1 (Value.ref h₁.objs.size)))).update h₁.objs.size
      (Obj.mapFields (·.setIfInBounds 3 ((none : Option Addr).elim Value.none fun f => rawInt f)))).get? b = some o := fun b o nb e => by
    rw [Heap.get?_update_other _ _ (Nat.ne_of_gt (Heap.lt_size e)), Heap.get?_update_other _ _ (Ne.symm nb)]
    exact Heap.get?_push_of_some _ e
  refine h _ h₁.objs.size ?_ lt1 (fun b o nb nf e => keep b o nb ((hs.2.1 b nf).trans e)) (fun b o nb e => ?_) ?_
  · rw [hs.1]
    exact Heap.get?_none_of_le (Nat.le_refl _)
  · obtain ⟨sl, q⟩ := hs.2.2 b o e
    exact ⟨sl, keep b _ nb q⟩
  · refine ⟨_, _, ?_, Obj.cls_mapFields oe (·.setIfInBounds 1 (Value.ref h₁.objs.size)), dict_mapF oe (·.setIfInBounds 1 (Value.ref h₁.objs.size)), d3, by simp [h1], .inr ⟨h₁.objs.size, _, _, rfl, lt1,
      Heap.get?_update_self _ t3 (Obj.isFreed_of_fields (Obj.data_mapFields rfl _)), Obj.data_mapFields rfl _, by simp [hsz]⟩⟩
    rw [Heap.get?_update_other _ _ lt1]
    exact e3
theorem fly_note {base : Heap} {env : Env} {outer : List Env} {L a : Addr} {cls hd : Value} {dct : Option Addr} {Q : Unit → Shared → Prop}
    (hfr : A.frames = some (env :: outer)) (hl : s.heap.FunFrames base (env :: outer)) (hf : env.frame = some L) (hx : FlyT s.heap a cls dct hd)
    (h : ∀ (h' : Heap) (T : Addr), s.heap.get? T = none → T ≠ a → (∀ b o, b ≠ a → hd ≠ .ref b → b ∉ (env :: outer).filterMap (·.frame) → s.heap.get? b = some o → h'.get? b = some o) →
      (∀ b o, b ∈ (env :: outer).filterMap (·.frame) → s.heap.get? b = some o → ∃ sl, h'.get? b = some { o with slots := sl }) → FlyT h' a cls dct (.ref T) → Q () { s with heap := h' }) :
    wpAny M A (noteFrame (.ref a) env) (fun _ s' => wpAny M A (setFlight (.ref a) none) Q E s') E s := by
  obtain ⟨oe, vs, he, rfl, rfl, hdt, h1, hc⟩ := hx
  have fr : ∀ b o, b ∈ (env :: outer).filterMap (·.frame) → s.heap.get? b = some o → ∀ ws, o.data ≠ .fields ws := fun b o hb e => by
    obtain ⟨_, o', ho, hn⟩ := hl.mem hb
    rw [e] at ho; cases ho
    exact hn
  have na : ∀ b o, b ∈ (env :: outer).filterMap (·.frame) → s.heap.get? b = some o → b ≠ a := fun b o hb e z => by
    subst z
    rw [e] at he; cases he
    exact fr _ _ hb e vs hdt
  have z1 := (Array.getElem?_eq_some_iff.mp h1).1
  unfold noteFrame
  simp only [hf]
  refine wpAny_bind (wpAny_field he hdt h1 ?_)
  rcases hc with rfl | ⟨T, oT, ts, rfl, hTa, hT, hTd, h3⟩
  · rw [if_neg (by decide)]
    refine fly_entry hfr hl hf he hdt z1 fun h' T' n1 n2 k1 k2 fl => h h' T' n1 n2 (fun b o nb _ nf e => k1 b o nb nf e) (fun b o hb e => k2 b o (na b o hb e) e) fl
  · rw [if_pos (show (Value.ref T != Value.none) = true by simp)]
    refine wpAny_bind (wpAny_field hT hTd h3 ?_)
    rw [if_neg (show ¬ ((Value.none == rawInt L) = true) by simp [rawInt])]
    refine wpAny_bind (wpAny_setField hT hTd (Array.getElem?_eq_some_iff.mp h3).1 ?_)
    have oth : ∀ b, b ≠ T → (s.heap.update T (Obj.mapFields (·.setIfInBounds 3 Value.none))).get? b = s.heap.get? b := fun b nb => Heap.get?_update_other _ _ (Ne.symm nb)
    have fT : ∀ b o, s.heap.get? b = some o → (∀ ws, o.data ≠ .fields ws) → b ≠ T := fun b o e hn z => by
      rw [z, hT] at e; cases e
      exact hn ts hTd
    refine fly_entry (s := { s with heap := s.heap.update T (Obj.mapFields (·.setIfInBounds 3 Value.none)) }) hfr (hl.of_keeps fun b o e hn => ⟨o, (oth b (fT b o e hn)).trans e, rfl⟩) hf ((oth a (Ne.symm hTa)).trans he) hdt z1
      fun h' T' n1 n2 k1 k2 fl => h h' T' ?_ n2 (fun b o nb nT nf e => k1 b o nb nf ((oth b (fun z => nT (by rw [z]))).trans e)) (fun b o hb e => k2 b o (na b o hb e) ((oth b (fT b o e (fr b o hb e))).trans e)) fl
    cases q : s.heap.get? T' with
    | none => rfl
    | some o =>
      by_cases z : T' = T
      · subst z
        have := Heap.get?_update_self (Obj.mapFields (·.setIfInBounds 3 Value.none)) hT (Obj.isFreed_of_fields (Obj.data_mapFields hTd _))
        rw [this] at n1; cases n1
      · have n1' : (s.heap.update T (Obj.mapFields (·.setIfInBounds 3 Value.none))).get? T' = none := n1
        rw [oth T' z, q] at n1'; cases n1'
theorem fly_leave {base : Heap} {env : Env} {outer : List Env} {L a : Addr} {cls hd : Value} {dct : Option Addr} {Q : Unit → Shared → Prop}
    (hfr : A.frames = some (env :: outer)) (hl : s.heap.FunFrames base (env :: outer)) (hf : env.frame = some L) (hx : FlyT s.heap a cls dct hd)
    (h : ∀ (h' : Heap) (T : Addr), s.heap.get? T = none → T ≠ a → (∀ b o, b ≠ a → hd ≠ .ref b → b ∉ (env :: outer).filterMap (·.frame) → s.heap.get? b = some o → h'.get? b = some o) →
      (∀ b o, b ∈ (env :: outer).filterMap (·.frame) → s.heap.get? b = some o → ∃ sl, h'.get? b = some { o with slots := sl }) → FlyT h' a cls dct (.ref T) → Q () { s with heap := h' }) :
    wpAny M A (leaving env (.ref a)) Q E s := by
  unfold leaving
  exact wpAny_bind (fly_note hfr hl hf hx h)
theorem fly_rest {a T : Addr} {cls : Value} {dct : Option Addr} {Q : Unit → Shared → Prop} (hx : FlyT s.heap a cls dct (.ref T))
    (h : ∀ h', (∀ b o, b ≠ T → s.heap.get? b = some o → h'.get? b = some o) → FlyT h' a cls dct (.ref T) → Q () { s with heap := h' }) : wpAny M A (setFlight (.ref a) none) Q E s := by
  obtain ⟨oe, vs, he, rfl, rfl, hdt, h1, hc⟩ := hx
  rcases hc with z | ⟨T', oT, ts, z, hTa, hT, hTd, h3⟩
  · cases z
  · cases z
    unfold setFlight
    refine wpAny_bind (wpAny_field he hdt h1 ?_)
    rw [if_pos (show (Value.ref T != Value.none) = true by simp)]
    have z3 := (Array.getElem?_eq_some_iff.mp h3).1
    have oth : ∀ b, b ≠ T → (s.heap.update T (Obj.mapFields (·.setIfInBounds 3 ((none : Option Addr).elim Value.none fun f => rawInt f)))).get? b = s.heap.get? b := fun b nb => Heap.get?_update_other _ _ (Ne.symm nb)
    refine wpAny_setField hT hTd z3 (h _ (fun b o nb e => (oth b nb).trans e) ⟨oe, vs, (oth a (Ne.symm hTa)).trans he, rfl, rfl, hdt, h1, .inr ⟨T, _, _, rfl, hTa, Heap.get?_update_self _ hT (Obj.isFreed_of_fields (Obj.data_mapFields hTd _)), Obj.data_mapFields hTd _, ?_⟩⟩)
    simp [z3]
end
end L2

set_option maxHeartbeats 4000000
namespace L2
open PySem PySem.Spec PyProof.Rows
def Flies (h0 h : Heap) (H : Hp) (a : Addr) (cls : Value) (dct : Option Addr) : Prop :=
  ∃ hd, FlyT h a cls dct hd ∧ H a = none ∧ h0.get? a = none ∧ ∀ T, hd = .ref T → H T = none ∧ h0.get? T = none
def CXE (P : Program) (w : World) : CXT := fun outer H s E e s' => ∃ a cls dct H', e = .ref a ∧ s'.os = s.os ∧ AllBare s'.gens ∧ Un (frs outer) [] H H' s.heap s'.heap ∧ HOk P w H' s'.heap ∧ Flies s.heap s'.heap H' a cls dct ∧ E cls dct H'
theorem ObjOk.there {P : Program} {w : World} {H : Hp} {h : Heap} {a : Addr} {o : HO} (x : ObjOk P w H h a o) : ∃ ob, h.get? a = some ob := by
  cases o with
  | lst xs => obtain ⟨_, _, _, _, e⟩ := x; exact ⟨_, e⟩
  | tup xs => obtain ⟨_, _, _, ob, e, _⟩ := x; exact ⟨_, e⟩
  | dK kvs => obtain ⟨_, _, _, _, o, _, _, e, _⟩ := x; exact ⟨_, e⟩
  | dT kvs => obtain ⟨_, _, _, _, o, _, _, e, _⟩ := x; exact ⟨_, e⟩
  | set S n => obtain ⟨o, _, _, _, e, _⟩ := x; exact ⟨_, e⟩
  | ins C dx fs => obtain ⟨_, _, _, e, _⟩ := x; exact ⟨_, e⟩
  | own y => exact x
  | xd fs => obtain ⟨_, ⟨_, _, _, e, _⟩, _⟩ := x; exact ⟨_, e⟩
  | rng lo hi => obtain ⟨_, _, _, e⟩ := x; exact ⟨_, e⟩
  | frz ob u => obtain ⟨e, _⟩ := x; exact ⟨_, e⟩
  | tbl ps => exact ⟨_, (show h.get? a = some _ from x)⟩
  | met f y => exact ⟨_, (show h.get? a = some _ from x)⟩
  | ext φ => obtain ⟨_, e, _⟩ := x; exact e
theorem frs_sub {env : Env} {l : List Env} {b : Addr} (hb : b ∈ frs l) : b ∈ frs (env :: l) := by
  unfold frs at *
  rw [List.filterMap_cons]
  cases env.frame with
  | none => exact hb
  | some L => exact List.mem_cons_of_mem _ hb
section
variable {X : Cx} {pins : List (Addr × Obj)} {σ : St} {H H' : Hp} {s : Shared} {h' : Heap} {a T : Addr} {cls hd : Value} {dct : Option Addr}
theorem s0_none (I : Inv X pins σ H s) (hex : X.ex = []) (n : s.heap.get? a = none) : X.s₀.heap.get? a = none := by
  cases e : X.s₀.heap.get? a with
  | none => rfl
  | some o =>
    obtain ⟨o1, e1⟩ := I.base.there a o e (by rw [hex]; simp)
    rw [n] at e1; cases e1
theorem hok_fly (I : Inv X pins σ H s) (keep : ∀ b o, b ≠ a → hd ≠ .ref b → b ∉ frs X.stack → s.heap.get? b = some o → h'.get? b = some o) (ha : H a = none) (hT : ∀ T, hd = .ref T → H T = none) : HOk X.prog X.w H h' := fun b u e => by
  have tr : ∀ c v, H c = some v → c ≠ a ∧ hd ≠ .ref c ∧ c ∉ frs X.stack := fun c v q => ⟨ne_of_none q ha, fun z => (by rw [hT c z] at q; cases q), fun z => (by rw [I.stkFree c z] at q; cases q)⟩
  refine (I.hok b u e).stay (fun c v hc q => ?_) (fun _ q => q) fun _ _ q => q
  obtain ⟨z, hz⟩ : ∃ v, H c = some v := by
    rcases hc with rfl | hc
    · exact ⟨_, e⟩
    · exact ⟨_, hc⟩
  exact keep c v (tr c z hz).1 (tr c z hz).2.1 (tr c z hz).2.2 q
theorem h_none (I : Inv X pins σ H s) (n : s.heap.get? T = none) : H T = none := by
  cases q : H T with
  | none => rfl
  | some u =>
    obtain ⟨ob, e⟩ := (I.hok T u q).there
    rw [n] at e; cases e
theorem left_ok (I : Inv X pins σ H s) (hex : X.ex = []) (hst : X.stack = X.env :: X.outer) (ha : H a = none) (na : X.s₀.heap.get? a = none) (hT : ∀ T, hd = .ref T → H T = none ∧ X.s₀.heap.get? T = none)
    (nT : s.heap.get? T = none) (keep : ∀ b o, b ≠ a → hd ≠ .ref b → b ∉ frs X.stack → s.heap.get? b = some o → h'.get? b = some o)
    (slot : ∀ b o, b ∈ frs X.stack → s.heap.get? b = some o → ∃ sl, h'.get? b = some { o with slots := sl }) (fl : FlyT h' a cls dct (.ref T)) :
    Un (frs X.outer) [] X.H₀ H X.s₀.heap h' ∧ HOk X.prog X.w H h' ∧ Flies X.s₀.heap h' H a cls dct := by
  have s0a : ∀ b o, X.s₀.heap.get? b = some o → b ≠ a ∧ hd ≠ .ref b := fun b o e => ⟨fun z => (by rw [z, na] at e; cases e), fun z => (by rw [(hT b z).2] at e; cases e)⟩
  have s0L : ∀ b o, X.s₀.heap.get? b = some o → b ∈ frs X.stack → b ∈ frs X.outer := fun b o e hb => by
    rcases List.mem_cons.mp (I.stkSub b hb) with z | z
    · rw [z] at e
      exact absurd (Nat.lt_of_lt_of_le (Heap.lt_size e) I.ok.above) (Nat.lt_irrefl _)
    · exact z
  have noex : ∀ b : Addr, b ∉ X.ex := fun b => by rw [hex]; simp
  refine ⟨⟨fun b o e n hb _ => ?_, fun b o e n hb _ => ?_, fun b o e n _ => I.base.free b o e n (noex b), fun b o e _ => ?_, I.base.tups, I.base.frzs, I.base.tbls⟩, hok_fly I keep ha fun T z => (hT T z).1, ?_⟩
  · exact keep b o (s0a b o e).1 (s0a b o e).2 (fun z => hb (s0L b o e z)) (I.base.keep b o e n hb (noex b))
  · obtain ⟨sl, e1⟩ := I.base.slot b o e n hb (noex b)
    obtain ⟨sl', e2⟩ := slot b _ (by rw [hst]; exact frs_sub hb) e1
    exact ⟨sl', e2⟩
  · obtain ⟨o1, e1⟩ := I.base.there b o e (noex b)
    by_cases hb : b ∈ frs X.stack
    · obtain ⟨sl, e2⟩ := slot b o1 hb e1
      exact ⟨_, e2⟩
    · exact ⟨_, keep b o1 (s0a b o e).1 (s0a b o e).2 hb e1⟩
  · exact ⟨.ref T, fl, ha, na, fun T' z => by cases z; exact ⟨h_none I nT, s0_none I hex nT⟩⟩
def PassesX (CX : CXT) (X : Cx) (E : St → XK) : Prop := ∀ (pins : List (Addr × Obj)) (σ : St) (H : Hp) (s : Shared) (e : Value) (s' : Shared), Inv X pins σ H s → CX X.stack H s (E σ) e s' → X.xe e s'
end
section
variable {P : Program} {w : World} {K : PySem.W.Frag} {mg : Str → Option Value} {base : Heap} {N : List Str} {qual : Str} {scope : Scope} {f : Addr} {cd : Value} {A : Around} {outer : List Env} {s : Shared} {H : Hp} {E : XK}
theorem pass_def : PassesX (CXE P w) (cxOf (CXE P w) P w K mg base N qual scope f cd A outer s H E) (fun _ => E) := by
  intro pins σ H1 s1 e s2 I hx
  obtain ⟨a, cls, dct, H2, he, hos, hg, un, hok, ⟨hd, fl, ha, na, hT⟩, q⟩ := hx
  subst he
  have I2 : Inv (cxOf (CXE P w) P w K mg base N qual scope f cd A outer s H E) pins σ H2 s2 := I.call' hos un hok hg (fun b z => absurd z (by simp))
  show wpAny _ _ (leaving _ (.ref a)) _ _ s2
  refine fly_leave (env := envOfC qual scope s.heap.objs.size f cd) (outer := outer) I.ok.frames I2.stack rfl fl fun h' T n1 n2 k1 k2 fl' => ?_
  obtain ⟨y1, y2, y3⟩ := left_ok I2 rfl rfl ha (s0_none I rfl na) (fun T z => ⟨(hT T z).1, s0_none I rfl (hT T z).2⟩) n1 k1 k2 fl'
  exact ⟨a, cls, dct, H2, rfl, I2.os, I2.bare, y1, y2, y3, q⟩
theorem own_def : PassesOwn (model P w) (A.deeper (envOfC qual scope s.heap.objs.size f cd)) (envOfC qual scope s.heap.objs.size f cd) (cxOf (CXE P w) P w K mg base N qual scope f cd A outer s H E).xe := PassesOwn.leaving
end
section
variable {P : Program} {w : World} {K : PySem.W.Frag} {mg : Str → Option Value} {base : Heap}
end
def tCallX (sp : Sp) (dvs : List V) (E : St → XK) (t : TA) : TE := fun σ H Q => t σ H fun vs H1 => sp (vs ++ dvs) H1 Q (E σ)
section
variable {X : Cx} {CX : CXT} {k : Nat} {f C : Addr} {fd : FuncData} {ps : List Str} {sp : Sp} {dvs : List V} {ds : List Value} {E : St → XK} {x m : Str} {p pos apos : Pos} {e o : Expr} {es : List Expr} {ta : TE} {t : TA}
theorem run_fnX {pins : List (Addr × Obj)} {σ : St} {H : Hp} {s : Shared} {Q : VK} {us : List Value} {vs : List V} (F : FnOk X.prog X.w X.K X.mg X.base CX k f fd ps sp) (hr : Room k X.A) (hb : Binds X.K fd ps ds) (hd : Vals dvs ds) (hx : PassesX CX X E)
    (I : Inv X pins σ H s) (r : Vals vs us) (h : sp (vs ++ dvs) H Q (E σ)) : wpAny (model X.prog X.w) X.A (call (.ref f) us) (EP X pins σ Q) X.xe s := by
  have r2 : Vals (vs ++ dvs) (us ++ ds) := r.append hd
  have hl : (us ++ ds).length = ps.length := by rw [← r2.length]; exact F.len _ _ _ _ h
  refine wpAny_call (codeAny_mono (F.run X.A X.stack s H ⟨us, []⟩ (us ++ ds) (vs ++ dvs) Q (E σ) hr I.env0 (hb s us I.kIn hl) r2 h) fun r s' hq => ?_)
  cases r with
  | error e => exact hx pins σ H s e s' I hq
  | ok fl =>
    cases fl with
    | ret u => exact I.after hq
    | next => exact False.elim hq
    | brk => exact False.elim hq
    | cont => exact False.elim hq
theorem pe_callX (F : FnOk X.prog X.w X.K X.mg X.base CX k f fd ps sp) (hr : Room k X.A) (hg : Gl X x) (hm : X.mg x = some (.ref f)) (hk : PySem.W.keepIn X.K (.ref f) = true) (hb : Binds X.K fd ps ds) (hd : Vals dvs ds) (hx : PassesX CX X E)
    (ha : PA X (e :: es) t) (hdb : (x == ("__debug__" : Str)) = false := by decide) (he : starEach (e :: es) X.env = (false, eval e X.env) :: starEach es X.env := by rfl) (hpl : (backTo pos (starEach es X.env)).any (·.1) = false := by rfl) :
    PE X (.Call (.Name x p) (e :: es) [] pos) (tCallX sp dvs E t) := by
  intro pins s σ H Q I h
  refine wpAny_Call_Name_kw (ld_glob I hg hm ?_ hdb)
  refine PySem.W.callWith_K (h₀ := X.base) I.ok.mod.kin hk (thn (ha pos pins s σ H _ I h) fun us s1 ⟨vs, H1, I1, r, q⟩ => ⟨I1.kIn, ?_⟩) he hpl
  exact run_fnX F hr hb hd hx I1 r q
end
end L2

set_option maxHeartbeats 4000000
namespace L2
open PySem PySem.Spec PyProof.Rows
def bmV : List Value := [.type "ValueError", .type "Exception", .type "BaseException", .type "object"]
def XCls (K : PySem.W.Frag) (C : Addr) : Prop := PySem.W.excIn K C bmV "ValueError.__new__" = true
theorem XCls.obj {K : PySem.W.Frag} {C : Addr} (q : XCls K C) : ∃ bm N nm qn bs hdct sn sub ab col dd k0 k1 k2 k3 k5, PySem.W.nsOkIn K N = true ∧ PySem.W.nsIn K N "__init__" = some none ∧ PySem.W.tailIn K bmV bm = true ∧
    K.lookup C = some (excClassObj nm qn C N bs bm hdct sn sub ab col dd k0 k1 k2 k3 k5 "ValueError.__new__") := by
  unfold XCls PySem.W.excIn at q
  split at q
  · next dd cd sl lk =>
    split at q
    · next C' bm k0 k1 k2 k3 nid k5 em es =>
      simp only [Bool.and_eq_true, beq_iff_eq, Bool.not_eq_true'] at q
      obtain ⟨⟨⟨⟨⟨e1, e2⟩, e3⟩, e4⟩, e5⟩, e6⟩ := q
      subst e1
      subst e2
      obtain ⟨nm, bs, mro, ns, qn, hdct, sn, sub, ab, col, del⟩ := cd
      dsimp only at em e3 e5 e6
      subst em
      subst e3
      obtain ⟨sll⟩ := sl
      dsimp only at es
      subst es
      exact ⟨bm, ns, nm, qn, bs, hdct, sn, sub, ab, col, dd, k0, k1, k2, k3, k5, e5, e6, e4, lk⟩
    · cases q
  · cases q
theorem ns_two {K : PySem.W.Frag} {N : Addr} {h h2 : Heap} {m : Str → Option Value} (ok : PySem.W.nsOkIn K N = true) (X : K.In h) (X2 : K.In h2) (n : h.Ns N m) : h2.Ns N m := by
  obtain ⟨o, es, ep, ho, r⟩ := n
  unfold PySem.W.nsOkIn at ok
  split at ok
  · next lk =>
    have e := X _ _ lk
    rw [ho] at e
    cases e
    exact ⟨_, es, ep, X2 _ _ lk, r⟩
  · cases ok
section
variable {X : Cx} {E : St → XK} {x : Str} {C : Addr} {e₀ : Expr} {es : List Expr} {t : TA} {np cpos pos : Pos}
def tRaise (C : Addr) (E : St → XK) (t : TA) : TS := fun _ σ H => t σ H fun vs H1 => vs.length ≤ sizeLine ∧ E σ (.ref C) none H1
theorem ps_raise (hC : XCls X.K C) (hc : X.calm = true) (hg : Gl X x) (hm : X.mg x = some (.ref C)) (hx : PassesX (CXE X.prog X.w) X E) (ha : PA X (e₀ :: es) t) (hdb : (x == ("__debug__" : Str)) = false := by decide)
    (he : starEach (e₀ :: es) X.env = (false, eval e₀ X.env) :: starEach es X.env := by rfl) (hpl : (backTo cpos (starEach es X.env)).any (·.1) = false := by rfl) :
    PS X (.Raise (some (.Call (.Name x np) (e₀ :: es) [] cpos)) none pos) (tRaise C E t) := by
  intro pins s σ H D I h
  obtain ⟨bm, N, nm, qn, bs, hdct, sn, sub, ab, col, dd, k0, k1, k2, k3, k5, f1, f2, f3, f4⟩ := hC.obj
  have hN := PySem.Heap.Ns.of_isNs (PySem.W.isNs_of_in I.kIn f1)
  refine wpAny_Raise_call_subT (C := C) (nm := nm) (q := qn) (N := N) (bs := bs) (bm := bm) (hdct := hdct) (sn := sn) (sub := sub) (ab := ab) (col := col) (dd := dd) (k0 := k0) (k1 := k1) (k2 := k2) (k3 := k3) (k5 := k5)
    PySem.F.excBase_ValueError (mN := s.heap.nsMap N) ((PySem.W.tail_of_in I.kIn f3).hasType PySem.F.excBase_ValueError.hasBase) (I.ok.hd hc) ?_ (PySem.W.nsMap_none_of_in I.kIn f1 f2) (ld_glob I hg hm ⟨rfl, ?_⟩ hdb)
  · rw [he]
    show (false || (backTo cpos (starEach es X.env)).any (·.1)) = false
    rw [hpl]
    rfl
  · have ha' := ha cpos pins s σ H _ I h
    rw [he] at ha' ⊢
    refine Calls.evalArgs_plain (thn ha' fun us s2 q => ?_)
    obtain ⟨vs, H1, I1, r, z, q⟩ := q
    refine ⟨rfl, by rw [← r.length]; exact z, I1.kIn _ _ f4, ns_two f1 I.kIn I1.kIn hN, PySem.W.tail_of_in I1.kIn f3, fun h' e hmade => ?_⟩
    obtain ⟨tp, q1, _, _⟩ := hmade.there
    exact hx pins σ H1 s2 (.ref e) _ I1 ⟨e, .ref C, none, H1, rfl, rfl, I1.bare, Un.kept hmade.keeps, I1.hok.kept hmade.keeps, ⟨.none, ⟨_, _, q1, rfl, rfl, rfl, rfl, .inl rfl⟩, h_none I1 hmade.new, hmade.new, fun T z => nomatch z⟩, q⟩
end
section
variable {X : Cx} {pins pins' : List (Addr × Obj)} {σ : St} {H H' : Hp} {s : Shared} {h' : Heap} {a T : Addr} {cls hd : Value} {dct : Option Addr}
theorem Inv.recx {pn' : List (Addr × Obj)} {A' : Around} {calm' : Bool} {xe' : Value → Shared → Prop} (I : Inv X pins σ H s) (hA : A'.frames = X.A.frames) (hcalm : calm' = true → A'.handled = none) (hp : ∀ p ∈ pn' ++ pins', p ∈ X.pn ++ pins) :
    Inv { X with pn := pn', A := A', calm := calm', xe := xe' } pins' σ H s :=
  ⟨⟨I.ok.mod, I.ok.kind, I.ok.glob, I.ok.blt, I.ok.above, I.ok.inj, I.ok.has, I.ok.cab, hcalm, hA.trans I.ok.frames, I.ok.stk, I.ok.exf, I.ok.bs, I.ok.bsz, I.ok.noex, I.ok.exfs, I.ok.funs, I.ok.frf⟩,
    I.os, I.bare, I.base, I.loc, I.cell, I.free, I.freeC, fun p q => I.pin p (hp p q), I.hok, I.len⟩
theorem Inv.recb {pn' : List (Addr × Obj)} {A' : Around} {calm' : Bool} {xe' : Value → Shared → Prop} (I : Inv { X with pn := pn', A := A', calm := calm', xe := xe' } pins' σ H s) (hA : A'.frames = X.A.frames) (hcalm : X.calm = true → X.A.handled = none) (hp : ∀ p ∈ X.pn ++ pins, p ∈ pn' ++ pins') :
    Inv X pins σ H s :=
  ⟨⟨I.ok.mod, I.ok.kind, I.ok.glob, I.ok.blt, I.ok.above, I.ok.inj, I.ok.has, I.ok.cab, hcalm, hA.symm.trans I.ok.frames, I.ok.stk, I.ok.exf, I.ok.bs, I.ok.bsz, I.ok.noex, I.ok.exfs, I.ok.funs, I.ok.frf⟩,
    I.os, I.bare, I.base, I.loc, I.cell, I.free, I.freeC, fun p q => I.pin p (hp p q), I.hok, I.len⟩
theorem Inv.flew (I : Inv X pins σ H s) (ha : H a = none) (na : X.s₀.heap.get? a = none) (hT : ∀ T, hd = .ref T → H T = none ∧ X.s₀.heap.get? T = none) (fl : FlyT s.heap a cls dct hd) (hp : ∀ p ∈ X.pn ++ pins, p.1 ≠ a ∧ hd ≠ .ref p.1)
    (keep : ∀ b o, b ≠ a → hd ≠ .ref b → b ∉ frs X.stack → s.heap.get? b = some o → h'.get? b = some o)
    (slot : ∀ b o, b ∈ frs X.stack → s.heap.get? b = some o → ∃ sl, h'.get? b = some { o with slots := sl }) {t' : Nat} : Inv X pins σ H { s with heap := h', toks := t' } := by
  obtain ⟨oe, vs, he, _, _, hdt, _, hc⟩ := fl
  have fT : ∀ T, hd = .ref T → ∃ o ts, s.heap.get? T = some o ∧ o.data = .fields ts := fun T z => by
    rcases hc with q | ⟨T', oT, ts, q, _, q2, q3, _⟩
    · rw [z] at q; cases q
    · rw [z] at q; cases q; exact ⟨_, _, q2, q3⟩
  have off : ∀ b o, s.heap.get? b = some o → (∀ ws, o.data ≠ .fields ws) → b ≠ a ∧ hd ≠ .ref b := fun b o e hn => ⟨fun z => (by rw [z, he] at e; cases e; exact hn vs hdt), fun z => by
    obtain ⟨o', ts, q1, q2⟩ := fT b z
    rw [q1] at e; cases e; exact hn ts q2⟩
  have s0 : ∀ b o, X.s₀.heap.get? b = some o → b ≠ a ∧ hd ≠ .ref b := fun b o e => ⟨fun z => (by rw [z, na] at e; cases e), fun z => (by rw [(hT b z).2] at e; cases e)⟩
  have s0L : ∀ b o, X.s₀.heap.get? b = some o → b ∈ frs X.stack → b ∈ X.fs := fun b o e hb => by
    rcases List.mem_cons.mp (I.stkSub b hb) with z | z
    · rw [z] at e
      exact absurd (Nat.lt_of_lt_of_le (Heap.lt_size e) I.ok.above) (Nat.lt_irrefl _)
    · exact z
  have any : ∀ b o, s.heap.get? b = some o → b ≠ a → hd ≠ .ref b → ∃ sl, h'.get? b = some { o with slots := sl } := fun b o e n1 n2 => by
    by_cases hb : b ∈ frs X.stack
    · exact slot b o hb e
    · exact ⟨o.slots, keep b o n1 n2 hb e⟩
  have inStack : ∀ b, b ∈ X.fs → b ∈ frs X.stack := fun b hb => by
    rcases I.ok.stk with z | ⟨z, _⟩
    · rw [z]; exact hb
    · rw [z]; exact frs_sub hb
  refine ⟨I.ok, I.os, I.bare, ⟨fun b o e n hb hx => ?_, fun b o e n hb hx => ?_, fun b o e n hx => I.base.free b o e n hx, fun b o e hx => ?_, I.base.tups, I.base.frzs, I.base.tbls⟩, ?_, fun y c e => ?_, I.free, I.freeC, fun p q => ?_, hok_fly I keep ha fun T z => (hT T z).1, I.len⟩
  · exact keep b o (s0 b o e).1 (s0 b o e).2 (fun z => hb (s0L b o e z)) (I.base.keep b o e n hb hx)
  · obtain ⟨sl, e1⟩ := I.base.slot b o e n hb hx
    obtain ⟨sl', e2⟩ := slot b _ (inStack b hb) e1
    exact ⟨sl', e2⟩
  · obtain ⟨o1, e1⟩ := I.base.there b o e hx
    obtain ⟨sl, e2⟩ := any b o1 e1 (s0 b o e).1 (s0 b o e).2
    exact ⟨_, e2⟩
  · obtain ⟨m, ⟨o, es, ep, ho, hd', r⟩, hl⟩ := I.loc
    have nf := off _ o ho fun ws z => by rw [hd'] at z; cases z
    obtain ⟨sl, e2⟩ := any _ o ho nf.1 nf.2
    refine ⟨m, ⟨_, es, ep, e2, hd', r⟩, fun i x v q1 q2 q3 => ?_⟩
    obtain ⟨u, r1, l⟩ := hl i x v q1 q2 q3
    refine ⟨u, r1, ?_⟩
    rcases l with l | ⟨k, c, e, oc, hoc, hcd⟩
    · exact .inl l
    · have nf := off c oc hoc fun ws z => by rw [hcd] at z; cases z
      obtain ⟨sl, e3⟩ := any c oc hoc nf.1 nf.2
      exact .inr ⟨k, c, e, _, e3, hcd⟩
  · obtain ⟨v, oc, hoc, hcd⟩ := I.cell y c e
    have nf := off c oc hoc fun ws z => by rw [hcd] at z; cases z
    obtain ⟨sl, e3⟩ := any c oc hoc nf.1 nf.2
    exact ⟨v, _, e3, hcd⟩
  · obtain ⟨e, n, ne, nf, d⟩ := I.pin p q
    refine ⟨keep p.1 p.2 (hp p q).1 (hp p q).2 (fun z => ?_) e, n, ne, nf, d⟩
    rcases List.mem_cons.mp (I.stkSub p.1 z) with z | z
    · exact ne z
    · exact nf z
def exO (a : Addr) (cls : Value) (dct : Option Addr) : HO := .ext fun h => ∃ oe vs, h.get? a = some oe ∧ oe.cls = cls ∧ oe.dict = dct ∧ oe.data = .fields vs
theorem Inv.track (I : Inv X pins σ H s) (ha : H a = none) (na : X.s₀.heap.get? a = none) (hp : ∀ p ∈ X.pn ++ pins, p.1 ≠ a) (fl : FlyT s.heap a cls dct hd) : Inv X pins σ (upd H a (exO a cls dct)) s := by
  obtain ⟨oe, vs, he, f1, f2, hdt, _, _⟩ := fl
  have off : ∀ b o, s.heap.get? b = some o → (∀ ws, o.data ≠ .fields ws) → b ≠ a := fun b o e hn z => by rw [z, he] at e; cases e; exact hn vs hdt
  have tr : ∀ b u, H b = some u → upd H a (exO a cls dct) b = some u := fun b u q => by rw [upd_ne (ne_of_none q ha)]; exact q
  refine ⟨I.ok, I.os, I.bare, ⟨I.base.keep, I.base.slot, fun b o e n hx => ?_, I.base.there, fun b xs e => tr b _ (I.base.tups b xs e), fun b o u e => tr b _ (I.base.frzs b o u e), fun b ps e => ?_⟩, I.loc, I.cell, ?_, fun y c e => ?_, fun p q => ?_, fun b u e => ?_, I.len⟩
  · rw [upd_ne (fun z => (by rw [z, na] at e; cases e))]
    exact I.base.free b o e n hx
  · obtain ⟨more, q⟩ := I.base.tbls b ps e
    exact ⟨more, tr b _ q⟩
  · obtain ⟨m, ⟨o, es, ep, ho, hd', r⟩, _⟩ := I.loc
    rw [upd_ne (off _ o ho fun ws z => (by rw [hd'] at z; cases z))]
    exact I.free
  · obtain ⟨v, oc, hoc, hcd⟩ := I.cell y c e
    rw [upd_ne (off c oc hoc fun ws z => (by rw [hcd] at z; cases z))]
    exact I.freeC y c e
  · obtain ⟨e, n, r⟩ := I.pin p q
    exact ⟨e, by rw [upd_ne (hp p q)]; exact n, r⟩
  · by_cases hb : b = a
    · subst hb
      rw [upd_same] at e
      cases e
      exact ⟨⟨oe, vs, he, f1, f2, hdt⟩, ⟨_, he⟩, fun h1 h2 ⟨o', ws, q1, q2⟩ k => ⟨o', ws, k _ q1, q2⟩⟩
    · rw [upd_ne hb] at e
      exact (I.hok b u e).stay (fun _ _ _ q => q) (fun c q => tr c _ q) fun c xs q => tr c _ q
end
theorem matches_own {M : Model} {A : Around} {E : Value → Shared → Prop} {s : Shared} {K : PySem.W.Frag} {e D : Addr} {oe : Obj} {C : Addr} {b : Bool} {Q : Bool → Shared → Prop} (X : K.In s.heap) (he : s.heap.get? e = some oe) (hc : oe.cls = .ref C)
    (hD : XCls K D) (hsub : PySem.W.mroIn K C (.ref D) = some b) (h : Q b s) : wpAny M A (excMatches (.ref e) (.ref D)) Q E s := by
  obtain ⟨bm, N, nm, qn, bs, hdct, sn, sub, ab, col, dd, k0, k1, k2, k3, k5, f1, f2, f3, f4⟩ := hD.obj
  have hD0 := X _ _ f4
  have L := PySem.W.looks_mroIn (M := M) X hsub
  obtain ⟨hp, g, d, tk, os⟩ := s
  have hcB : (Value.ref D :: bm).contains (.type "BaseException") = true := by rw [List.contains_cons, (PySem.W.tail_of_in X f3).hasType (show bmV.contains (.type "BaseException") = true by decide +kernel), Bool.or_true]
  have ft := tc_notTuple
  unfold excMatches
  repeat (first | (with_reducible refine wpAny_loadPart_at he ?_; rw [hc]) | with_reducible refine wpAny_loadPart_at hD0 ?_ | (with_reducible refine wpAny_isSubtype_exc hD0 ?_; rw [hcB]) | (with_reducible refine L.at ?_) | wp_step)
  cases b <;> (try wp_walk) <;> exact h
def asEnds (i : Nat) (D : Ends) : Ends := { nx := fun σ H => D.nx (σ.set i none) H, rt := D.rt, bk := fun σ H => D.bk (σ.set i none) H, ct := fun σ H => D.ct (σ.set i none) H }
def tTryAs (K : PySem.W.Frag) (D : Addr) (i : Nat) (tb : (St → XK) → TS) (ts : TS) : TS := fun Dn σ H =>
  tb (fun σ' cls dct H' => ∃ C, cls = .ref C ∧ PySem.W.mroIn K C (.ref D) = some true ∧ ∀ a, H' a = none → ts (asEnds i Dn) (σ'.set i (some (.ref a))) (upd H' a (exO a (.ref C) dct))) Dn σ H
theorem ps_try_as {X : Cx} {body suite : List Stmt} {b₀ : Stmt} {x n : Str} {np hpos pos : Pos} {D : Addr} {i : Nat} {tb : (St → XK) → TS} {ts : TS}
    (hc : X.calm = true) (hex : X.ex = []) (hst : X.stack = X.env :: X.outer) (hfr : X.env.frame = some X.env.locals) (hD : XCls X.K D) (hg : Gl X x) (hm : X.mg x = some (.ref D))
    (hN : X.N.Nodup) (hi : X.N[i]? = some n) (hl : X.env.scope.names.lookup n = some .local)
    (hb : ∀ (pn : List (Addr × Obj)) (xe : Value → Shared → Prop) (EX : St → XK), PassesX (CXE X.prog X.w) { X with pn := pn, xe := xe } EX → PSs { X with pn := pn, xe := xe } body (tb EX))
    (hs : ∀ (pn : List (Addr × Obj)) (A' : Around) (xe : Value → Shared → Prop), PSs { X with pn := pn, A := A', calm := false, xe := xe } (b₀ :: suite) ts) (hdb : (x == ("__debug__" : Str)) = false := by decide) :
    PS X (.Try body [.ExceptHandler (some (.Name x np)) (some n) (b₀ :: suite) hpos] [] [] pos) (tTryAs X.K D i tb ts) := by
  intro pins s σ H Dn I h
  have hh := I.ok.hd hc
  refine wpAny_Try_except ?_
  have back : ∀ {xe : Value → Shared → Prop} {σ' : St} {H' : Hp} {s' : Shared}, Inv { X with pn := X.pn ++ pins, xe := xe } [] σ' H' s' → Inv X pins σ' H' s' := fun {xe σ' H' s'} J =>
    Inv.recb (A' := X.A) (calm' := X.calm) J rfl (fun _ => hh) fun p q => by simpa using q
  refine wpAny_mono (hb (X.pn ++ pins) (fun e s₁ => wpAny (model X.prog X.w) X.A (noteFrame e X.env) (fun _ s₂ => wpAny (model X.prog X.w) X.A (setFlight e none) (fun _ s₃ =>
      wpAny (model X.prog X.w) X.A (handleBy e X.env [.ExceptHandler (some (.Name x np)) (some n) (b₀ :: suite) hpos]) (SP X pins Dn) X.xe s₃) X.xe s₂) X.xe s₁) _ ?_ [] s σ H Dn
      (Inv.recx (A' := X.A) (calm' := X.calm) I rfl (fun _ => hh) fun p q => by simpa using q) h) (fun f s1 q => ?_) fun _ _ z => z
  · intro pins2 σ2 H2 s2 e s3 I2 hx
    obtain ⟨a, cls, dct, H3, he, hos, hgn, un, hok, ⟨hd, fl, ha, na, hT⟩, C, hcls, hsub, q⟩ := hx
    subst he
    subst hcls
    have I3 := I2.call' hos un hok hgn (fun b z => absurd z (by simp))
    have na0 := s0_none I2 hex na
    have hT0 : ∀ T, hd = .ref T → H3 T = none ∧ X.s₀.heap.get? T = none := fun T z => ⟨(hT T z).1, by have q := s0_none I2 hex (hT T z).2; exact q⟩
    have hp3 : ∀ p ∈ (X.pn ++ pins) ++ pins2, p.1 ≠ a ∧ hd ≠ .ref p.1 := fun p z => by
      have e := (I2.pin p z).1
      exact ⟨fun w => (by rw [w, na] at e; cases e), fun w => (by rw [(hT _ w).2] at e; cases e)⟩
    refine fly_note (env := X.env) (outer := X.outer) (by have := I.ok.frames; rw [hst] at this; exact this) (by have := I3.stack; rw [show Cx.stack _ = X.env :: X.outer from hst] at this; exact this) hfr fl fun h4 T n1 n2 k1 k2 fl4 => ?_
    have I4 : Inv _ pins2 σ2 H3 { s3 with heap := h4, toks := s3.toks } := I3.flew ha na0 hT0 fl hp3 (fun b o m1 m2 m3 e => k1 b o m1 m2 (by rw [← hst]; exact m3) e) (fun b o m1 e => k2 b o (by rw [← hst]; exact m1) e)
    have nT4 : H3 T = none := h_none I3 n1
    have nT0 := s0_none I3 hex n1
    have hp4 : ∀ p ∈ (X.pn ++ pins) ++ pins2, p.1 ≠ a ∧ (Value.ref T : Value) ≠ .ref p.1 := fun p z => ⟨(hp3 p z).1, fun w => by
      have e := (I3.pin p z).1
      cases w
      rw [n1] at e; cases e⟩
    obtain ⟨oe, vs, g1, g2, _⟩ := id fl4
    have J40 := Inv.recx (A' := X.A.mark (some (.ref a))) (calm' := false) (pn' := X.pn ++ pins) (pins' := pins2) (xe' := fun _ _ => True) I4 rfl (fun z => nomatch z) (fun p q => q)
    have J4 : Inv { X with pn := X.pn ++ pins, A := X.A.mark (some (.ref a)), calm := false, xe := fun _ _ => True } pins2 σ2 H3 { s3 with heap := h4 } := J40
    refine wpAny_handleBy_cons (codeAny_handlers_test ?_) (by intro z; cases z)
    refine ld_glob (X := { X with pn := X.pn ++ pins, A := X.A.mark (some (.ref a)), calm := false, xe := fun _ _ => True }) J4 hg hm ?_ hdb
    refine matches_own J4.kIn g1 g2 hD hsub ?_
    refine codeAny_handlers_suite_as (fly_rest fl4 fun h5 k5 fl5 => ?_)
    have J5 := J4.flew (h' := h5) (t' := s3.toks) ha na0 (fun T' z => by cases z; exact ⟨nT4, nT0⟩) fl4 hp4 (fun b o _ m2 _ e => k5 b o (fun z => m2 (by rw [z])) e) (fun b o m1 e => by
      refine ⟨o.slots, k5 b o (fun z => ?_) e⟩
      obtain ⟨_, o', ho', hn⟩ := J4.stack.mem m1
      obtain ⟨oe', vs', _, _, _, _, _, hcc⟩ := id fl4
      rcases hcc with w | ⟨T', oT, ts', w, _, w2, w3, _⟩
      · cases w
      · cases w
        rw [z, w2] at ho'
        cases ho'
        exact hn _ w3)
    have J6 := J5.track ha na0 (fun p z => (hp4 p z).1) fl5
    refine store_ok (X := { X with pn := X.pn ++ pins, A := X.A.mark (some (.ref a)), calm := false, xe := fun _ _ => True }) (v := .ref a) J6 hN hi (.inl hl) rfl (fun s7 J7 => ?_) (.inr hl)
    refine wpAny_mono ((hs (X.pn ++ pins) (X.A.mark (some (.ref a))) _) pins2 s7 _ _ (asEnds i Dn) (Inv.recx (X := { X with pn := X.pn ++ pins, A := X.A.mark (some (.ref a)), calm := false, xe := fun _ _ => True }) (A' := X.A.mark (some (.ref a))) (calm' := false) (pn' := X.pn ++ pins) J7 rfl (fun z => nomatch z) fun p q => q) (q a ha)) (fun f s8 w => ?_) fun _ _ z => z
    have fin : ∀ {xe : Value → Shared → Prop} {σ' : St} {H' : Hp} {Q' : Unit → Shared → Prop}, Inv { X with pn := X.pn ++ pins, A := X.A.mark (some (.ref a)), calm := false, xe := xe } pins2 σ' H' s8 → (∀ s9, Inv X pins (σ'.set i none) H' s9 → Q' () s9) →
        wpAny (model X.prog X.w) X.A (do bindName X.env n .none; unbindBehindTheSuite X.env n hpos) Q' X.xe s8 := fun {xe σ' H' Q'} J k => by
      have J' : Inv X pins σ' H' s8 := Inv.recb (A' := X.A.mark (some (.ref a))) (calm' := false) J rfl (fun _ => hh) fun p q => by simp; rcases List.mem_append.mp q with z | z <;> simp [z]
      obtain ⟨m, hn, hlo⟩ := J'.loc
      refine wpAny_nameGoes_keeps hl hn (by rw [J'.ok.kind]; rfl) fun h9 v hn9 sb => k _ ?_
      have J8 : Inv X pins σ' H' { s8 with toks := s8.toks + 1 } := J'.tok _
      obtain ⟨oL, _, _, hoL, _⟩ := id hn
      have cne := J'.cne
      have oth : ∀ b o, b ≠ X.env.locals → s8.heap.get? b = some o → h9.get? b = some o := fun b o nb e => (sb.2 b nb).trans e
      refine ⟨J'.ok, J'.os, J'.bare, ⟨fun b o e n hb hx => ?_, fun b o e n hb hx => ?_, J'.base.free, fun b o e hx => ?_, J'.base.tups, J'.base.frzs, J'.base.tbls⟩, ⟨_, hn9, fun j y v' e1 e2 e3 => ?_⟩, fun y c e => ?_, J'.free, J'.freeC, fun p hp => ?_, fun b ob e => ?_, by simpa using J'.len⟩
      · exact oth b o (Nat.ne_of_lt (Nat.lt_of_lt_of_le (Heap.lt_size e) J'.ok.above)) (J'.base.keep b o e n hb hx)
      · obtain ⟨sl, e1⟩ := J'.base.slot b o e n hb hx
        exact ⟨sl, oth b _ (Nat.ne_of_lt (Nat.lt_of_lt_of_le (Heap.lt_size e) J'.ok.above)) e1⟩
      · obtain ⟨o', e1⟩ := J'.base.there b o e hx
        exact ⟨o', oth b _ (Nat.ne_of_lt (Nat.lt_of_lt_of_le (Heap.lt_size e) J'.ok.above)) e1⟩
      · by_cases hj : j = i
        · subst hj
          rw [List.getElem?_set_self (by rw [J'.len]; exact (List.getElem?_eq_some_iff.mp hi).1)] at e2
          cases e2
        · rw [List.getElem?_set_ne (Ne.symm hj)] at e2
          obtain ⟨u', r', w'⟩ := hlo j y v' e1 e2 e3
          refine ⟨u', r', ?_⟩
          rcases w' with ⟨k', e⟩ | ⟨k', c, e, z⟩
          · refine .inl ⟨k', ?_⟩
            have : y ≠ n := fun e => hj (nodup_ix hN e1 (e ▸ hi))
            simp [this, e]
          · exact .inr ⟨k', c, e, z.sameBut sb (cne y c e)⟩
      · obtain ⟨w', z⟩ := J'.cell y c e
        exact ⟨w', z.sameBut sb (cne y c e)⟩
      · obtain ⟨e, n, ne, nf, d⟩ := J'.pin p hp
        exact ⟨oth p.1 _ ne e, n, ne, nf, d⟩
      · refine (J'.hok b ob e).stay (fun c w' hc q => oth c w' ?_ q) (fun _ q => q) fun _ _ q => q
        rintro rfl
        rcases hc with rfl | hc
        · rw [J'.free] at e; cases e
        · rw [J'.free] at hc; cases hc
    cases f with
    | next => obtain ⟨σ', H', J, d⟩ := w; exact fin J fun s9 J9 => ⟨_, H', J9, d⟩
    | brk => obtain ⟨σ', H', J, d⟩ := w; exact fin J fun s9 J9 => ⟨_, H', J9, d⟩
    | cont => obtain ⟨σ', H', J, d⟩ := w; exact fin J fun s9 J9 => ⟨_, H', J9, d⟩
    | ret u => obtain ⟨v, σ', H', J, r, d⟩ := w; exact fin J fun s9 J9 => ⟨v, _, H', J9, r, d⟩
  · cases f with
    | next => obtain ⟨σ', H', J, d⟩ := q; exact wpAny_execs_nil ⟨σ', H', back J, d⟩
    | brk => obtain ⟨σ', H', J, d⟩ := q; exact ⟨σ', H', back J, d⟩
    | cont => obtain ⟨σ', H', J, d⟩ := q; exact ⟨σ', H', back J, d⟩
    | ret u => obtain ⟨v, σ', H', J, r, d⟩ := q; exact ⟨v, σ', H', back J, r, d⟩
end L2

set_option maxHeartbeats 4000000
namespace L2
open PySem PySem.Spec PyProof.Rows PyProof.V PySem.SeqAt
section
variable {X : Cx} {pins : List (Addr × Obj)} {σ : St} {H : Hp} {s : Shared}
end
theorem eq_pure {M : Model} {A : Around} {m : Sem Unit} {Q : Unit → Shared → Prop} {E : Value → Shared → Prop} {s : Shared} (h : m = pure ()) (q : Q () s) : wpAny M A m Q E s := by rw [h]; exact wpAny_pure q
theorem exc_class {prog : Program} {w : World} {A : Around} {E : Value → Shared → Prop} {s : Shared} {K : PySem.W.Frag} {x D : Addr} {oe : Obj} {Q : Option Value → Shared → Prop} (X : K.In s.heap) (I : PySem.W.InstAt s.heap x oe D none)
    (hga : PySem.W.findIn K (.ref D) "__getattribute__" = some (some (.builtin "BaseException.__getattribute__"))) (hno : PySem.W.findIn K (.ref D) "__getattr__" = some none) (hb : PySem.W.mroIn K D (.type "BaseException") = some true)
    (hm : PySem.W.mroIn K D (.type "object") = some true) (hf : PySem.W.findObj K D none "__class__" = some (.bind (.builtin "getset_descriptor.__get__") (.builtin "object.__class__"))) (h : Q (some (.ref D)) { s with toks := s.toks + 1 }) :
    wpAny (model prog w) A (getAttr? (.ref x) "__class__") Q E s := by
  obtain ⟨hh, g, d, t, os⟩ := s
  have L0 := I.type (M := model prog w)
  have L1 := PySem.W.looks_findIn (M := model prog w) X hga
  have L2 := PySem.W.looks_findIn (M := model prog w) X hno
  have L3 := PySem.W.looks_mroIn (M := model prog w) X hb
  have L4 := PySem.W.looks_find (M := model prog w) X I hf
  unfold getAttr? getAttrBy? getAttrBy
  refine wpAny_bind (wpAny_mkText (wpAny_bind (wpAny_attempt (wpAny_holding (wpAny_bind (L0.at (wpAny_bind (L1.at ?_))))))))
  show wpAny _ _ (getAttrByItsOwn _ _ _ _ _ _) _ _ _
  unfold getAttrByItsOwn
  refine wpAny_bind (show wpAny _ _ (typeLookup (.ref D) "__getattr__") _ _ _ from L2.at ?_)
  refine wpAny_bind (wpAny_attempt (wpAny_holding ?_))
  show wpAny _ _ (boundAndCalled _ _ _) _ _ _
  unfold boundAndCalled
  rw [PySem.F.excAttr_ValueError.ga.bind]
  refine wpAny_bind (wpAny_pure ?_)
  show wpAny _ _ (call (.builtin "BaseException.__getattribute__") [.ref x, .str "__class__" _]) _ _ _
  have hk : builtinKind "BaseException.__getattribute__" = some .slot := by decide +kernel
  have hsplit : splitId "BaseException.__getattribute__" = some ("BaseException", "__getattribute__") := by decide +kernel
  refine wpAny_call (codeAny_call_builtin PySem.F.excAttr_ValueError.ga.plain PySem.F.entry_bexc_ga ?_)
  have ha := PySem.F.args_bexc_ga (.ref x) (.str "__class__" t)
  simp only [checkBuiltinCall, hk, hsplit]
  refine wpAny_bind ?_
  unfold isInstance
  refine wpAny_bind (L0.at (L3.at ?_))
  rw [if_neg (by decide)]
  refine eq_pure ha ?_
  unfold Builtin.«object.__getattribute__»
  refine wpAny_bind ?_
  refine wpAny_pure ?_
  dsimp only
  refine wpAny_bind (wpAny_pure (wpAny_bind (L0.at (wpAny_bind (L4.at ?_)))))
  dsimp only
  show wpAny _ _ (holding [.builtin "object.__class__"] (call (.builtin "getset_descriptor.__get__") [.builtin "object.__class__", .ref x, .ref D]) >>= ret) _ _ _
  refine wpAny_bind (wpAny_holding (wpAny_call (PySem.W.class_get (s := ⟨hh, g, d, t + 1, os⟩) (ox := oe) (od := none) X I hm ?_)))
  refine wpAny_pure ?_
  exact PySem.W.handed_on rfl (wpAny_pure h)
structure XIs (K : PySem.W.Frag) (C : Addr) : Prop where
  hga : PySem.W.findIn K (.ref C) "__getattribute__" = some (some (.builtin "BaseException.__getattribute__"))
  hno : PySem.W.findIn K (.ref C) "__getattr__" = some none
  hb : PySem.W.mroIn K C (.type "BaseException") = some true
  hd : PySem.W.hasDictIn K C = true
  ha : PySem.W.findIn K (.ref C) "__class__" = some (some (.builtin "object.__class__"))
  hm : PySem.W.mroIn K C (.type "object") = some true
structure IsK (K : PySem.W.Frag) : Prop where
  hn : PySem.W.specialIn K (.builtin "object.__class__") "__get__" = some (some (.builtin "getset_descriptor.__get__"))
  htk : PySem.W.takesIn K (.builtin "object.__class__") = some true
inductive TyE (K : PySem.W.Frag) (H : Hp) : V → Value → Prop where
  | of {x : V} {t : Value} (h : TyOf K H x t) : TyE K H x t
  | exc {a C : Addr} (e : H a = some (exO a (.ref C) none)) (x : XIs K C) (k : IsK K) : TyE K H (.ref a) (.ref C)
def clsV : V → Value
  | .ref a => .ref a
  | .ty n => .type n
  | _ => .none
def isClsV : V → Bool
  | .ref _ => true
  | .ty _ => true
  | _ => false
theorem clsV_of {c : V} {u : Value} (h : isClsV c = true) (r : RelV c u) : u = clsV c := by
  cases c <;> first | exact r | exact absurd (show false = true from h) Bool.false_ne_true
theorem kitx_exc {K : PySem.W.Frag} {x D : Addr} (q : XIs K D) (k : IsK K) : PySem.W.KitX K (.ref x) (.ref D) (fun h => ∃ oe vs, h.get? x = some oe ∧ oe.cls = .ref D ∧ oe.dict = none ∧ oe.data = .fields vs) where
  ty := fun M h _ p => by
    obtain ⟨oe, vs, h1, h2, _⟩ := p
    exact h2 ▸ (PySem.W.Looks.ld h1).andThen .now
  it := fun _ _ X _ => by
    obtain ⟨cdD, hcD, _⟩ := PySem.W.any_some q.hd
    unfold PySem.W.clsIn at hcD
    split at hcD
    · next ho =>
      intro A' Q' E' s' k q
      unfold isType loadHead
      exact wpAny_bind (wpAny_loadPart (k _ _ (X _ _ ho)) (wpAny_pure q))
    · cases hcD
  ne := fun h tp dd its n sl X htp => by
    obtain ⟨cdD, hcD, _⟩ := PySem.W.any_some q.hd
    refine Bool.eq_false_iff.mpr fun z => ?_
    have e : D = tp := Value.ref.inj (beq_iff_eq.mp z)
    subst e
    unfold PySem.W.clsIn at hcD
    split at hcD
    · next ho =>
      have z := (X _ _ ho).symm.trans htp
      cases z
    · cases hcD
  ca := fun {prog w A E Q s} X p hq => by
    obtain ⟨oe, vs, h1, h2, h3, h4⟩ := p
    have I : PySem.W.InstAt s.heap x oe D none := ⟨h1, h2, by unfold PySem.W.notCls; rw [h4], by rw [h3]; trivial⟩
    have hf : PySem.W.findObj K D none "__class__" = some (.bind (.builtin "getset_descriptor.__get__") (.builtin "object.__class__")) := by
      obtain ⟨cd, hc, _⟩ := PySem.W.any_some q.hd
      unfold PySem.W.findObj
      rw [hc, Option.bind_some, q.ha, Option.bind_some]
      simp [k.hn, k.htk]
    exact exc_class X I q.hga q.hno q.hb q.hm hf hq
section
variable {X : Cx}
theorem tyE_kit {pins : List (Addr × Obj)} {σ : St} {H : Hp} {s : Shared} {x : V} {u t : Value} (I : Inv X pins σ H s) (rx : RelV x u) (ty : TyE X.K H x t) : ∃ P : Heap → Prop, PySem.W.KitX X.K u t P ∧ P s.heap ∧ u ≠ .builtin "__main__.__loader__#opaque" := by
  cases ty with
  | exc e q k =>
    cases rx
    exact ⟨_, kitx_exc q k, (I.hok _ _ e).1, fun z => nomatch z⟩
  | of h =>
    cases h with
    | non => cases (show u = Value.none from rx); exact ⟨_, PySem.W.kitx_none, trivial, fun z => nomatch z⟩
    | bl y => cases (show u = Value.bool y from rx); exact ⟨_, PySem.W.kitx_bool, trivial, fun z => nomatch z⟩
    | int i => obtain ⟨t, q⟩ := (show ∃ t, u = Value.int i t from rx); cases q; exact ⟨_, PySem.W.kitx_int, trivial, fun z => nomatch z⟩
    | str y => obtain ⟨t, q⟩ := (show ∃ t, u = Value.str y t from rx); cases q; exact ⟨_, PySem.W.kitx_str, trivial, fun z => nomatch z⟩
    | flt y => obtain ⟨t, q⟩ := (show ∃ t, u = Value.float y t from rx); cases q; exact ⟨_, PySem.W.kitx_float, trivial, fun z => nomatch z⟩
    | @lst a xs ea =>
      cases (show u = Value.ref a from rx)
      obtain ⟨_, _, n, _, h1⟩ := (show ObjOk X.prog X.w H s.heap a (.lst xs) from I.hok a _ ea)
      exact ⟨_, PySem.W.kitx_list, ⟨_, h1, rfl⟩, fun z => nomatch z⟩
    | @frz a ob xs ea =>
      cases (show u = Value.ref a from rx)
      obtain ⟨_, _, _, n, _, h1⟩ := (show ObjOk X.prog X.w H s.heap a (.frz ob (.lst xs)) from I.hok a _ ea)
      exact ⟨_, PySem.W.kitx_list, ⟨_, h1, rfl⟩, fun z => nomatch z⟩
    | @tup a xs ea =>
      cases (show u = Value.ref a from rx)
      obtain ⟨_, _, _, p⟩ := (show ObjOk X.prog X.w H s.heap a (.tup xs) from I.hok a _ ea)
      obtain ⟨o, h1, h2, _⟩ := p
      exact ⟨_, PySem.W.kitx_tuple, ⟨o, h1, h2⟩, fun z => nomatch z⟩
    | @dK a kvs ea =>
      cases (show u = Value.ref a from rx)
      obtain ⟨_, _, vs, _, p⟩ := (show ObjOk X.prog X.w H s.heap a (.dK kvs) from I.hok a _ ea)
      obtain ⟨o, es, ep, h1, h2, _⟩ := p
      exact ⟨_, PySem.W.kitx_dict, ⟨o, h1, h2.1⟩, fun z => nomatch z⟩
    | @dT a kvs ea =>
      cases (show u = Value.ref a from rx)
      obtain ⟨_, _, xs, _, o, es, ep, h1, h2, _⟩ := (show ObjOk X.prog X.w H s.heap a (.dT kvs) from I.hok a _ ea)
      exact ⟨_, PySem.W.kitx_dict, ⟨o, h1, h2.1⟩, fun z => nomatch z⟩
    | @ins a C dx fs ea cl ha hn htk hm =>
      cases (show u = Value.ref a from rx)
      obtain ⟨mA, O, _⟩ := ins_get I.hok ea
      obtain ⟨od, J, _⟩ := O.look
      exact ⟨_, PySem.W.kitx_own (cl.get _) cl.hd ha hn htk hm, J, fun z => nomatch z⟩
theorem call_isinst : CallR X (.builtin "isinstance") (fun xs H Q => ∃ x c t b, xs = [x, c] ∧ isClsV c = true ∧ TyE X.K H x t ∧ PySem.W.kitOne X.K t (clsV c) = some b ∧ Q (.bl b) H) := by
  intro pins s σ H xs us Q I r h
  obtain ⟨x, c, t, b, rfl, hc, ty, e, q⟩ := h
  obtain ⟨u, v, rfl, ru, rv⟩ := vals2 r
  have := clsV_of hc rv
  subst this
  obtain ⟨P, kx, p, ne⟩ := tyE_kit I ru ty
  exact PySem.W.kia_one kx I.kIn p e ne fun tk => ⟨.bl b, H, I.tok tk, rfl, q⟩
theorem vals_cls : ∀ {cs : List V} {us : List Value}, Vals cs us → cs.all isClsV = true → us = cs.map clsV
  | _, _, .nil, _ => rfl
  | _, _, .cons r1 r2, h => by
    rw [List.all_cons, Bool.and_eq_true] at h
    rw [List.map_cons, clsV_of h.1 r1, vals_cls r2 h.2]
theorem call_isinstT : CallR X (.builtin "isinstance") (fun xs H Q => ∃ x p cs t b, xs = [x, .ref p] ∧ H p = some (.tup cs) ∧ cs.all isClsV = true ∧ TyE X.K H x t ∧ PySem.W.kitAny X.K t (cs.map clsV) = some b ∧ Q (.bl b) H) := by
  intro pins s σ H xs us Q I r h
  obtain ⟨x, p, cs, t, b, rfl, hp, hc, ty, e, q⟩ := h
  obtain ⟨u, v, rfl, ru, rv⟩ := vals2 r
  cases rv
  obtain ⟨_, its, rvs, ⟨⟨ocls, od, odt, osl⟩, h1, h2, n, h3⟩⟩ := (show ObjOk X.prog X.w H s.heap p (.tup cs) from I.hok p _ hp)
  dsimp only at h2 h3
  subst h2
  subst h3
  have := vals_cls rvs hc
  subst this
  obtain ⟨P, kx, pp, ne⟩ := tyE_kit I ru ty
  exact PySem.W.kia_tup kx I.kIn pp h1 e ne fun tk => ⟨.bl b, H, I.tok tk, rfl, q⟩
end
end L2

set_option maxHeartbeats 4000000
namespace L2
open PySem
def closL (cells : List (Str × Addr)) : List (Str × NameKind) → List (Str × Addr) → List (Str × Addr)
  | [], acc => acc
  | (n, k) :: r, acc => closL cells r (if k == .free then (n, (cells.lookup n).getD 0) :: acc else acc)
def closF (env : Env) (x : Str × NameKind) (cs : List (Str × Addr)) : Sem (ForInStep (List (Str × Addr))) := match x with
  | (name, kind) => if (kind == .free) = true then do let a ← cellOf env name; pure (ForInStep.yield ((name, a) :: cs)) else pure (ForInStep.yield cs)
theorem closF_eq {env : Env} {n : Str} {k : NameKind} {cs : List (Str × Addr)} (h : k = .free → ∃ c, env.cells.lookup n = some c) :
    closF env (n, k) cs = pure (ForInStep.yield (if k == .free then (n, (env.cells.lookup n).getD 0) :: cs else cs)) := by
  unfold closF
  by_cases hk : (k == NameKind.free) = true
  · obtain ⟨c, hc⟩ := h (by simpa using hk)
    simp only [hk, if_true, cellOf, hc, pure_bind, Option.getD_some]
  · simp only [hk, if_false, Bool.false_eq_true]
theorem clos_eq {scope : Scope} {env : Env} (h : ∀ y ∈ scope.names, y.2 = .free → ∃ c, env.cells.lookup y.1 = some c) : closureFor scope env = pure (closL env.cells scope.names []) := by
  have key : ∀ (l : List (Str × NameKind)) (acc : List (Str × Addr)), (∀ y ∈ l, y.2 = .free → ∃ c, env.cells.lookup y.1 = some c) →
      forIn l acc (closF env) = (pure (closL env.cells l acc) : Sem (List (Str × Addr))) := by
    intro l
    induction l with
    | nil => intro acc _; rfl
    | cons p r ih =>
      obtain ⟨n, k⟩ := p
      intro acc hl
      rw [List.forIn_cons, closF_eq (fun z => hl (n, k) List.mem_cons_self z), pure_bind]
      exact ih _ fun y hy => hl y (List.mem_cons_of_mem _ hy)
  show (forIn scope.names [] (closF env) >>= fun cs => pure cs) = _
  rw [key scope.names [] h, pure_bind]
theorem closL_in {cells : List (Str × Addr)} {y : Str} {c : Addr} : ∀ {l : List (Str × NameKind)} {acc : List (Str × Addr)}, (∀ p ∈ l, p.2 = .free → ∃ c, cells.lookup p.1 = some c) → (acc.lookup y = some c → cells.lookup y = some c) →
    (closL cells l acc).lookup y = some c → cells.lookup y = some c
  | [], acc, _, ha, h => ha h
  | (n, k) :: r, acc, hl, ha, h => by
    refine closL_in (l := r) (fun p hp => hl p (List.mem_cons_of_mem _ hp)) ?_ h
    by_cases hk : (k == NameKind.free) = true
    · rw [if_pos hk, List.lookup_cons]
      obtain ⟨d, hd⟩ := hl (n, k) List.mem_cons_self (by simpa using hk)
      have hd' : cells.lookup n = some d := hd
      cases e : y == n with
      | true =>
        have : y = n := beq_iff_eq.mp e
        subst this
        intro q
        rw [hd'] at q ⊢
        exact q
      | false => exact ha
    · rw [if_neg hk]; exact ha
theorem closL_acc {cells : List (Str × Addr)} {y : Str} : ∀ {l : List (Str × NameKind)} {acc : List (Str × Addr)}, (∃ c, acc.lookup y = some c) → ∃ c, (closL cells l acc).lookup y = some c
  | [], _, h => h
  | (n, k) :: r, acc, h => by
    refine closL_acc (l := r) ?_
    by_cases hk : (k == NameKind.free) = true
    · rw [if_pos hk, List.lookup_cons]
      cases e : y == n with
      | true => exact ⟨_, rfl⟩
      | false => exact h
    · rw [if_neg hk]; exact h
theorem closL_has {cells : List (Str × Addr)} {y : Str} : ∀ {l : List (Str × NameKind)} {acc : List (Str × Addr)}, (y, NameKind.free) ∈ l → ∃ c, (closL cells l acc).lookup y = some c
  | [], _, h => nomatch h
  | (n, k) :: r, acc, h => by
    rcases List.mem_cons.mp h with q | q
    · cases q
      refine closL_acc (l := r) ?_
      rw [if_pos (by rfl), List.lookup_cons]
      simp
    · exact closL_has (l := r) q
section
variable {prog : Program} {w : World} {A : Around} {R : Result → Shared → Prop} {s : Shared}
theorem comp_loop {elt target iter : Expr} {ifs : List Expr} {scope : Scope} {pos : Pos} {it acc : Value} {env : Env} (I : Nat → Shared → Prop)
    (turn : ∀ n s, I n s → wpAny (model prog w) A (pyNext it) (fun r s₁ => match r with
      | none => R (.ok .next) s₁
      | some v => wpAny (model prog w) A (letOwnedTupleGo target it v) (fun _ s₂ => wpAny (model prog w) A (assign target env v) (fun _ s₃ =>
          wpAny (model prog w) A (forIn ifs true fun c r => if r = true then do let ok ← isTrue c env (eval c env); pure (ForInStep.yield ok) else pure (ForInStep.yield r)) (fun ok s₄ =>
            if ok = true then wpAny (model prog w) A (eval elt env) (fun x s₅ => wpAny (model prog w) A (call (.builtin "list.append") [acc, x]) (fun _ s₆ => ∃ m, m < n ∧ I m s₆) (fun _ _ => False) s₅) (fun _ _ => False) s₄
            else ∃ m, m < n ∧ I m s₄) (fun _ _ => False) s₃) (fun _ _ => False) s₂) (fun _ _ => False) s₁) (fun _ _ => False) s)
    (n : Nat) (h : I n s) : codeAny (model prog w) A (.compLoop (.ListComp elt [⟨target, iter, ifs, 0⟩] scope pos) 0 it acc env) R s := by
  refine codeAny_loop rfl I (fun n s hI => ?_) n h
  show wpAny _ A ((compTurn (.ListComp elt [⟨target, iter, ifs, 0⟩] scope pos) 0 it acc env).onRaise (fun x => do noteFrame x env; theTreesLotGoes x)) _ _ s
  refine wpAny_noted ?_
  rw [compTurn_list]
  have no : ∀ {α : Type} {t : Sem α} {Q : α → Shared → Prop} {E : Value → Shared → Prop} {s : Shared}, wpAny (model prog w) A t Q (fun _ _ => False) s → wpAny (model prog w) A t Q E s := fun {α t Q E s} z => wpAny_mono z (fun _ _ q => q) fun _ _ q => q.elim
  refine wpAny_bind (wpAny_standAt (wpAny_bind (no (wpAny_mono (turn n s hI) (fun r s₁ h₁ => ?_) fun _ _ z => z))))
  cases r with
  | none => exact wpAny_pure h₁
  | some v =>
    refine wpAny_bind (no (wpAny_mono h₁ (fun _ s₂ h₂ => ?_) fun _ _ z => z))
    refine wpAny_bind (no (wpAny_mono h₂ (fun _ s₃ h₃ => ?_) fun _ _ z => z))
    refine wpAny_bind (no (wpAny_mono h₃ (fun ok s₄ h₄ => ?_) fun _ _ z => z))
    cases ok with
    | false => exact wpAny_pure ⟨rfl, h₄⟩
    | true => exact wpAny_bind (wpAny_bind (no (wpAny_mono h₄ (fun x s₅ h₅ => wpAny_bind (no (wpAny_mono h₅ (fun _ s₆ h₆ => wpAny_pure (wpAny_pure ⟨rfl, h₆⟩)) fun _ _ z => z))) fun _ _ z => z)))
end
end L2

set_option maxHeartbeats 4000000
namespace L2
open PySem PySem.Spec PyProof.Rows
theorem relabel_look {scope : Scope} {env : Env} {y : Str} : (relabel scope env).names.lookup y = (scope.names.lookup y).map fun k => if (k == .free && env.scope.kind == .function && env.kindOf y == some .cell) then NameKind.cell else k := by
  unfold relabel
  show (scope.names.map _).lookup y = _
  generalize scope.names = l
  induction l with
  | nil => rfl
  | cons p r ih =>
    obtain ⟨n, k⟩ := p
    rw [List.map_cons]
    cases e : y == n with
    | true =>
      have : y = n := beq_iff_eq.mp e
      subst this
      by_cases h : (k == NameKind.free && env.scope.kind == .function && env.kindOf y == some .cell) = true
      · simp only [h, if_true, List.lookup_cons, beq_self_eq_true, Option.map_some]
      · simp only [h, if_false, List.lookup_cons, beq_self_eq_true, Option.map_some, Bool.false_eq_true]
    | false =>
      by_cases h : (k == NameKind.free && env.scope.kind == .function && env.kindOf n == some .cell) = true
      · simp only [h, if_true, List.lookup_cons, e]; exact ih
      · simp only [h, if_false, List.lookup_cons, e, Bool.false_eq_true]; exact ih
theorem mem_of_look {l : List (Str × NameKind)} {y : Str} {k : NameKind} (h : l.lookup y = some k) : (y, k) ∈ l := PySem.mem_of_lookup h
structure CompOk (scope fsc : Scope) (xs N' N : List Str) : Prop where
  kind : scope.kind = .function
  own : ∀ y ∈ scope.names, y.2 = .local → scope.names.lookup y.1 = some .local
  nocell : (scope.names.all fun y => y.2 != .cell) = true
  frees : (scope.names.all fun y => y.2 != .free || fsc.names.lookup y.1 == some .cell || fsc.names.lookup y.1 == some .free) = true
  mask : (N'.all fun y => scope.names.lookup y != some .local) = true
  same : ((N'.zip N).all fun p => p.1 == p.2 || scope.names.lookup p.1 == none) = true
  len : N'.length = N.length
def cxComp (X : Cx) (scope : Scope) (NN : List Str) (C : Addr) (s : Shared) (H : Hp) (pins : List (Addr × Obj)) (fp : List Addr) : Cx :=
  { X with N := NN, s₀ := s, H₀ := H, env := compEnvC scope (closL X.env.cells scope.names []) C X.env, outer := X.stack, stack := X.stack, ex := fp, fn := fun _ => false, pn := X.pn ++ pins, xe := fun _ _ => False }
section
variable {X : Cx} {pins : List (Addr × Obj)} {σ : St} {H : Hp} {s : Shared} {scope : Scope} {xs N' : List Str} {fp : List Addr}
theorem CompOk.free {fsc : Scope} {N : List Str} {y : Str} (c : CompOk scope fsc xs N' N) (h : scope.names.lookup y = some .free) : fsc.names.lookup y = some .cell ∨ fsc.names.lookup y = some .free := by
  have := List.all_eq_true.mp c.frees _ (mem_of_look h)
  simp at this
  exact this
theorem CompOk.vis {fsc : Scope} {N : List Str} {y : Str} {env : Env} (c : CompOk scope fsc xs N' N) (h : (relabel scope env).names.lookup y = some .cell ∨ (relabel scope env).names.lookup y = some .free) : scope.names.lookup y = some .free := by
  rw [relabel_look] at h
  cases e : scope.names.lookup y with
  | none => rw [e] at h; simp at h
  | some k =>
    have nc := List.all_eq_true.mp c.nocell _ (mem_of_look e)
    rw [e] at h
    cases k <;> simp at nc h ⊢
theorem relabel_loc {env : Env} {y : Str} (h : (relabel scope env).names.lookup y = some .local) : scope.names.lookup y = some .local := by
  rw [relabel_look] at h
  cases e : scope.names.lookup y with
  | none => rw [e] at h; simp at h
  | some k =>
    rw [e] at h
    simp only [Option.map_some, Option.some.injEq] at h
    split at h
    · cases h
    · rw [h]
theorem comp_start (I : Inv X pins σ H s) (cok : CompOk scope X.env.scope xs N' X.N) (hfp : ∀ b ∈ fp, FpOk X pins H b) (hfo : ∀ b ∈ fp, ∃ o, s.heap.get? b = some o) {h1 : Heap} {tk : Nat} (hn : h1.Ns s.heap.objs.size fun _ => none)
    (keep : ∀ b o, s.heap.get? b = some o → h1.get? b = some o) : Inv (cxComp X scope (xs ++ N') s.heap.objs.size s H pins fp) [] (List.replicate xs.length none ++ σ) H { s with heap := h1, toks := tk } := by
  have has : ∀ y, scope.names.lookup y = some .free → ∃ c, X.env.cells.lookup y = some c := fun y h => I.ok.has y (cok.free h)
  have cells : ∀ y c, (closL X.env.cells scope.names []).lookup y = some c → X.env.cells.lookup y = some c := fun y c h => by
    refine closL_in (l := scope.names) (acc := []) (fun p hp hk => ?_) (fun z => nomatch z) h
    have : X.env.scope.names.lookup p.1 = some .cell ∨ X.env.scope.names.lookup p.1 = some .free := by
      have := List.all_eq_true.mp cok.frees p hp
      simp [hk] at this
      exact this
    exact I.ok.has p.1 this
  have clt : ∀ y c, X.env.cells.lookup y = some c → c < s.heap.objs.size := fun y c h => by
    obtain ⟨v, q⟩ := I.cell y c h
    exact q.lt
  have sLs : ∀ b ∈ fp, b ∉ frs X.stack := fun b hb z => by
    rcases List.mem_cons.mp (I.stkSub b z) with q | q
    · exact (hfp b hb).2.1 q
    · exact (hfp b hb).2.2.1 q
  have cellK : ∀ c v, s.heap.IsCell c v → h1.IsCell c v := fun c v ⟨o, ho, hd⟩ => ⟨o, keep c o ho, hd⟩
  refine ⟨⟨I.ok.mod, ?_, I.ok.glob, I.ok.blt, Nat.le_refl _, fun y z c h1 h2 => I.ok.inj y z c (cells y c h1) (cells z c h2), fun y h => ?_, fun _ _ z => (nomatch z), I.ok.hd, I.ok.frames, .inl rfl, fun b hb => ⟨?_, fun y c h => ?_⟩, I.bs, Nat.le_trans I.ok.bsz I.sz, fun b o e hb => ?_, sLs, I.stack, I.stkFree⟩,
    rfl, I.bare, Un.kept keep, ⟨_, hn, fun i y v e1 e2 e3 => ?_⟩, fun y c h => ?_, I.hok.fresh (Nat.le_refl _), fun y c h => I.freeC y c (cells y c h), fun p hp => ?_, I.hok.kept keep, ?_⟩
  · show scope.kind = _; exact cok.kind
  · exact closL_has (mem_of_look (cok.vis h))
  · obtain ⟨o, e⟩ := hfo b hb
    exact Nat.ne_of_lt (Heap.lt_size e)
  · exact (hfp b hb).2.2.2.2.1 y c (cells y c h)
  · rcases (hfp b hb).2.2.2.1 with z | z
    · exact I.ok.noex b o e z
    · exact absurd (Nat.lt_of_lt_of_le (Heap.lt_size (I.ok.bs b o e).1) z) (Nat.lt_irrefl _)
  · have hi : xs.length ≤ i := by
      refine Nat.le_of_not_lt fun z => ?_
      rw [List.getElem?_append_left (by rw [List.length_replicate]; exact z), List.getElem?_replicate] at e2
      split at e2 <;> simp at e2
    have e1' : N'[i - xs.length]? = some y := by
      have e1 : (xs ++ N')[i]? = some y := e1
      rwa [List.getElem?_append_right hi] at e1
    have e2' : σ[i - xs.length]? = some (some v) := by
      rw [List.getElem?_append_right (by rw [List.length_replicate]; exact hi), List.length_replicate] at e2
      exact e2
    have mem := List.mem_of_getElem? e1'
    have hk : (relabel scope X.env).names.lookup y = some .cell ∨ (relabel scope X.env).names.lookup y = some .free := by
      rcases e3 with z | z
      · have := List.all_eq_true.mp cok.mask y mem
        rw [relabel_loc z] at this
        simp at this
      · exact z
    have hf := cok.vis hk
    have hx : X.N[i - xs.length]? = some y := by
      have hl : i - xs.length < X.N.length := by rw [← cok.len]; exact (List.getElem?_eq_some_iff.mp e1').1
      have hz : (N'.zip X.N)[i - xs.length]? = some (y, X.N[i - xs.length]) := by
        rw [List.getElem?_zip_eq_some]
        exact ⟨e1', List.getElem?_eq_getElem hl⟩
      have := List.all_eq_true.mp cok.same _ (List.mem_of_getElem? hz)
      simp [hf] at this
      rw [List.getElem?_eq_getElem hl, ← this]
    obtain ⟨m, hm, hl⟩ := I.loc
    have hv : Vis X.env.scope y := .inr (cok.free hf)
    obtain ⟨u, r, l⟩ := hl _ y v hx e2' hv
    refine ⟨u, r, .inr ⟨hk, ?_⟩⟩
    rcases l with ⟨k, _⟩ | ⟨_, c, hc, hcell⟩
    · rcases cok.free hf with z | z
      · rw [show X.env.scope.names.lookup y = some .local from k] at z; cases z
      · rw [show X.env.scope.names.lookup y = some .local from k] at z; cases z
    · obtain ⟨c', hc'⟩ := closL_has (cells := X.env.cells) (acc := []) (mem_of_look hf)
      have : c = c' := by
        have := cells y c' hc'
        rw [hc] at this
        exact Option.some.inj this
      subst this
      exact ⟨c, hc', cellK c _ hcell⟩
  · obtain ⟨v, q⟩ := I.cell y c (cells y c h)
    exact ⟨v, cellK c v q⟩
  · have hp' : p ∈ X.pn ++ pins := by simpa [cxComp] using hp
    obtain ⟨e, n, ne, nf, d⟩ := I.pin p hp'
    refine ⟨keep p.1 p.2 e, n, Nat.ne_of_lt (Heap.lt_size e), fun z => ?_, d⟩
    rcases List.mem_cons.mp (I.stkSub p.1 z) with q | q
    · exact ne q
    · exact nf q
  · show (List.replicate xs.length none ++ σ).length = (xs ++ N').length
    rw [List.length_append, List.length_append, List.length_replicate, I.len, cok.len]
def tTrue : TT := fun _ H Q => Q true H
def PTs (X : Cx) (ifs : List Expr) (t : TT) : Prop :=
  ∀ (pins : List (Addr × Obj)) (s : Shared) (σ : St) (H : Hp) (Q : Bool → Hp → Prop), Inv X pins σ H s → t σ H Q →
    wpAny (model X.prog X.w) X.A (forIn ifs true fun c r => if r = true then do let ok ← isTrue c X.env (eval c X.env); pure (ForInStep.yield ok) else pure (ForInStep.yield r)) (TP X pins σ Q) X.xe s
theorem pts_nil : PTs X [] tTrue := fun _ _ _ H _ I h => wpAny_tests_nil ⟨H, I, h⟩
def tComp (k : Nat) (wi : TI) (g : TG) (tc : TT) (te : TE) : TE := fun σ H Q => wi σ H fun J H1 => ∀ acc, H1 acc = none → ∃ (W : Nat → List V → Hp → Prop) (n : Nat), W 0 [] (upd H1 acc (.lst [])) ∧
  ∀ i ys H2, W i ys H2 → H2 acc = some (.lst ys) ∧ ys.length < sizeLine ∧ ((i = n ∧ J.stop i H2 ∧ Q (.ref acc) H2) ∨ (i < n ∧ J.go i H2 ∧ ∀ x H3, J.yld i H2 x H3 → ∀ τ : St, τ.length = k → g x (τ ++ σ) H3 fun τ2 H4 =>
    (∃ τ' : St, τ'.length = k ∧ τ2 = τ' ++ σ) ∧ tc τ2 H4 fun b H5 => if b = true then te τ2 H5 fun v H6 => H6 acc = some (.lst ys) ∧ W (i + 1) (ys ++ [v]) (upd H6 acc (.lst (ys ++ [v]))) else W (i + 1) ys H5))
theorem comp_back (I : Inv X pins σ H s) (hfp : ∀ b ∈ fp, FpOk X pins H b) {NN : List Str} {pins' : List (Addr × Obj)} {τ : St} {H' : Hp} {s' : Shared} (J : Inv (cxComp X scope NN s.heap.objs.size s H pins fp) pins' τ H' s') : Inv X pins σ H' s' :=
  I.call' (ch := fp) (J.os.trans rfl) J.base J.hok J.bare fun b hb => ⟨(hfp b hb).2.2.2.1, (hfp b hb).2.1, (hfp b hb).2.2.2.2.1, (hfp b hb).2.2.2.2.2⟩
end
end L2

set_option maxHeartbeats 4000000
namespace L2
open PySem PySem.Spec PyProof.Rows
section
variable {X : Cx} {scope : Scope} {xs N' : List Str} {target iter elt : Expr} {ifs : List Expr} {pos : Pos} {wi : TI} {g : TG} {tc : TT} {te : TE}
theorem comp_block (hc : X.calm = true) (cok : CompOk scope X.env.scope xs N' X.N) (hi : PI X target iter wi)
    (hg : ∀ C s H pins fp, PG (cxComp X scope (xs ++ N') C s H pins fp) target g) (ht : ∀ C s H pins fp, PTs (cxComp X scope (xs ++ N') C s H pins fp) ifs tc) (he : ∀ C s H pins fp, PE (cxComp X scope (xs ++ N') C s H pins fp) elt te)
    {pins : List (Addr × Obj)} {s : Shared} {σ : St} {H : Hp} {Q : VK} {RR : Value → Addr → Result → Shared → Prop} (I : Inv X pins σ H s) (h : tComp xs.length wi g tc te σ H Q)
    (hRR : ∀ a C m H' s', Inv X pins σ H' s' → FpOk X pins H' C → s'.heap.Ns C m → Q (.ref a) H' → RR (.ref a) C (.ok .next) s') :
    wpAny (model X.prog X.w) X.A (eval iter X.env) (fun x s₁ => wpAny (model X.prog X.w) X.A (pyIter x) (fun it s₂ => wpAny (model X.prog X.w) X.A (newList []) (fun acc s₃ =>
      wpAny (model X.prog X.w) X.A (newFunctionEnv scope X.env.globals (closL X.env.cells scope.names []) [] X.env.qual none .none (some X.env)) (fun cenv s₄ =>
        codeAny (model X.prog X.w) X.A (.compStart (.ListComp elt [⟨target, iter, ifs, 0⟩] scope pos) 0 it acc { cenv with scope := relabel scope X.env }) (RR acc cenv.locals) s₄) X.xe s₃) X.xe s₂) X.xe s₁) X.xe s := by
  refine thn (hi pins s σ H _ I h) fun v s1 h1 => thn h1 fun itv s2 h2 => ?_
  obtain ⟨it, fp, tn, J, H2, e, I2, T, st2, f2, h3⟩ := h2
  subst e
  have ob2 : ∀ b ∈ fp, ∃ o, s2.heap.get? b = some o := fun b hb => let ⟨o, q, _⟩ := T.obj _ _ st2 b hb; ⟨o, q⟩
  have fresh2 : H2 s2.heap.objs.size = none := I2.fresh
  have I3 := I2.lnew (its := []) (ys := []) (t' := s2.toks) .nil (Nat.zero_le _)
  refine wpAny_newObj_type (T := "list") ?_
  obtain ⟨W, n, w0, turn⟩ := h3 s2.heap.objs.size fresh2
  generalize hs3 : ({ s2 with heap := s2.heap.push { cls := .type "list", data := .seq ([] : List Value).toArray }, toks := s2.toks } : Shared) = s3 at I3
  have sub3 : ∀ b o, s2.heap.get? b = some o → s3.heap.get? b = some o := fun b o q => by rw [← hs3]; exact Heap.get?_push_of_some _ q
  have f3 : ∀ b ∈ fp, FpOk X pins (upd H2 s2.heap.objs.size (.lst [])) b := fun b hb => by
    obtain ⟨o, q⟩ := ob2 b hb
    obtain ⟨q0, q1⟩ := f2 b hb
    exact ⟨by rw [upd_ne (Nat.ne_of_lt (Heap.lt_size q))]; exact q0, q1⟩
  have ob3 : ∀ b ∈ fp, ∃ o, s3.heap.get? b = some o := fun b hb => let ⟨o, q⟩ := ob2 b hb; ⟨o, sub3 b o q⟩
  have st3 : tn 0 s3.heap := T.keep _ _ _ st2 fun b _ o q => sub3 b o q
  refine wpAny_newFunctionEnv (fun y hy z => ?_) (fun y hy => nomatch hy) (fun h4 hns hsb => ?_) cok.kind
  · have := List.all_eq_true.mp cok.nocell y hy
    rw [z] at this
    simp at this
  have keep4 : ∀ b o, s3.heap.get? b = some o → h4.get? b = some o := fun b o q => (hsb.2 b (Nat.ne_of_lt (Heap.lt_size q))).trans (Heap.get?_push_of_some _ q)
  have J4 := comp_start (tk := s3.toks + ([] : List (Str × Value)).length) I3 cok f3 ob3 hns keep4
  have st4 : tn 0 h4 := T.keep _ _ _ st3 fun b _ o q => keep4 b o q
  generalize hY : cxComp X scope (xs ++ N') s3.heap.objs.size s3 (upd H2 s2.heap.objs.size (.lst [])) pins fp = Y at J4
  have hP : Y.prog = X.prog := by rw [← hY]; rfl
  have hw : Y.w = X.w := by rw [← hY]; rfl
  have hK : Y.K = X.K := by rw [← hY]; rfl
  have hcY : Y.calm = true := by rw [← hY]; exact hc
  have stat : ∀ {H' : Hp}, (∀ b ∈ fp, H' b = none) → ∀ b ∈ fp, FpOk Y [] H' b := fun {H'} hn b hb => by
    obtain ⟨o, q⟩ := ob3 b hb
    rw [← hY]
    refine ⟨hn b hb, Nat.ne_of_lt (Heap.lt_size q), fun z => ?_, .inl hb, fun y c hy => ?_, fun p hp => ?_⟩
    · rcases List.mem_cons.mp (I3.stkSub b z) with w | w
      · exact (f3 b hb).2.1 w
      · exact (f3 b hb).2.2.1 w
    · have hx := J4.ok.exf b (by rw [← hY]; exact hb)
      rw [← hY] at hx
      exact hx.2 y c hy
    · have hp' : p ∈ X.pn ++ pins := by simpa [cxComp] using hp
      exact (f3 b hb).2.2.2.2.2 p hp'
  have loop : ∀ s5 : Shared, Inv Y [] (List.replicate xs.length none ++ σ) (upd H2 s2.heap.objs.size (.lst [])) s5 → tn 0 s5.heap →
      codeAny (model X.prog X.w) X.A (.compLoop (.ListComp elt [⟨target, iter, ifs, 0⟩] scope pos) 0 (.ref it) (.ref s2.heap.objs.size) Y.env) (RR (.ref s2.heap.objs.size) s3.heap.objs.size) s5 := by
    intro s5 J5 st5
    refine comp_loop (fun k s' => ∃ (i : Nat) (ys : List V) (H' : Hp) (τ : St), k + i = n ∧ τ.length = xs.length ∧ Inv Y [] (τ ++ σ) H' s' ∧ tn i s'.heap ∧ (∀ b ∈ fp, H' b = none) ∧ W i ys H') ?_ n
      ⟨0, [], _, List.replicate xs.length none, rfl, List.length_replicate .., J5, st5, fun b hb => (f3 b hb).1, w0⟩
    rintro k s6 ⟨i, ys, H6, τ, hk, hτ, J6, st6, fr6, w6⟩
    obtain ⟨hacc, hlen, hcase⟩ := turn i ys H6 w6
    rcases hcase with ⟨hin, stop, hq⟩ | ⟨hin, go, step⟩
    · refine thn (A := X.A) (by have := T.done Y hP hw hK hcY i [] s6 (τ ++ σ) H6 (fun _ _ => False) J6 (stat fr6) st6 stop; rw [← hY] at this; exact this) fun r s7 q7 => ?_
      obtain ⟨hr, J7⟩ := q7
      subst hr
      rw [hY] at J7
      obtain ⟨m7, hn7, _⟩ := J7.loc
      have e1 : Y.env.locals = s3.heap.objs.size := by rw [← hY]; rfl
      rw [e1] at hn7
      have J7' : Inv X pins σ H6 s7 := comp_back I3 f3 (by rw [hY]; exact J7)
      refine hRR _ _ m7 H6 s7 J7' ?_ hn7 hq
      have e2 := J7.free
      rw [e1] at e2
      exact I3.fpOk (Nat.le_refl _) e2
    · refine thn (A := X.A) (by have := T.item Y hP hw hK hcY i [] s6 (τ ++ σ) H6 (fun _ _ => False) J6 (stat fr6) st6 go; rw [← hY] at this; exact this) fun r s7 q7 => ?_
      obtain ⟨u, hr, q7⟩ := q7
      subst hr
      have hA : Y.A = X.A := by rw [← hY]; rfl
      rw [hY] at q7
      rw [hA] at q7
      refine thn q7 fun _ s8 q8 => ?_
      obtain ⟨x8, H8, J8, r8, y8, st8, fr8⟩ := q8
      have J8' := J8.pinned (stat fr8) (T.obj _ _ st8)
      have g8 := hg s3.heap.objs.size s3 (upd H2 s2.heap.objs.size (.lst [])) pins fp
      have t8 := ht s3.heap.objs.size s3 (upd H2 s2.heap.objs.size (.lst [])) pins fp
      have e8 := he s3.heap.objs.size s3 (upd H2 s2.heap.objs.size (.lst [])) pins fp
      have a8 : ∀ {Z : Cx}, Z = Y → MtM Z "list.append" rAppend := fun {Z} _ => mt_append
      have hxe : Y.xe = fun _ _ => False := by rw [← hY]; rfl
      rw [hY] at g8 t8 e8
      have back : ∀ {τ2 : St} {H9 : Hp} {s9 : Shared}, Inv Y ([] ++ pinsAt fp s8.heap) τ2 H9 s9 → Inv Y [] τ2 H9 s9 ∧ tn (i + 1) s9.heap ∧ ∀ b ∈ fp, H9 b = none := fun {τ2 H9 s9} J9 => by
        refine ⟨J9.unpinned, T.keep _ _ _ st8 fun b hb o q => (J9.pin (b, o) (List.mem_append_right _ (List.mem_append_right _ (mem_pinsAt hb q)))).1, fun b hb => ?_⟩
        obtain ⟨o, q, d⟩ := T.obj _ _ st8 b hb
        exact (J9.pin (b, o) (List.mem_append_right _ (List.mem_append_right _ (mem_pinsAt hb q)))).2.1
      have z1 := g8 _ s8 (τ ++ σ) H8 x8 u _ J8' r8 (step x8 H8 y8 τ hτ)
      rw [hP, hw, hA, hxe] at z1
      refine thn z1 fun _ s9 q9 => ?_
      obtain ⟨τ9, H9, J9, ⟨τ', hτ', e9⟩, q9⟩ := q9
      subst e9
      have z2 := t8 _ s9 (τ' ++ σ) H9 _ J9 q9
      rw [hP, hw, hA, hxe] at z2
      refine thn z2 fun b s10 q10 => ?_
      obtain ⟨H10, J10, q10⟩ := q10
      cases b with
      | false =>
        rw [if_neg Bool.false_ne_true] at q10 ⊢
        obtain ⟨b1, b2, b3⟩ := back J10
        exact ⟨k - 1, by omega, i + 1, ys, H10, τ', by omega, hτ', b1, b2, b3, q10⟩
      | true =>
        rw [if_pos rfl] at q10 ⊢
        have z3 := e8 _ s10 (τ' ++ σ) H10 _ J10 q10
        rw [hP, hw, hA, hxe] at z3
        refine thn z3 fun y s11 q11 => ?_
        obtain ⟨v11, H11, J11, r11, hacc11, w11⟩ := q11
        have z4 := a8 rfl _ s11 (τ' ++ σ) H11 (.ref s2.heap.objs.size) [v11] (.ref s2.heap.objs.size) [y] (fun _ H' => W (i + 1) (ys ++ [v11]) H') J11 rfl (.cons r11 .nil) ⟨_, ys, v11, rfl, rfl, hacc11, hlen, w11⟩
        rw [hP, hw, hA, hxe] at z4
        refine thn z4 fun _ s12 q12 => ?_
        obtain ⟨_, H12, J12, _, w12⟩ := q12
        obtain ⟨b1, b2, b3⟩ := back J12
        exact ⟨k - 1, by omega, i + 1, ys ++ [v11], H12, τ', by omega, hτ', b1, b2, b3, w12⟩
  have env4 : ({ newEnv scope s3.heap.objs.size X.env.globals (closL X.env.cells scope.names []) X.env.qual none .none (some X.env) X.env.builtins with scope := relabel scope X.env } : Env) = Y.env := by rw [← hY]; rfl
  have l4 := loop _ J4 st4
  rw [← env4] at l4
  exact codeAny_compStart_list l4 (T.self _ 0 _ _ _ st4 l4)
theorem clos_of {pins : List (Addr × Obj)} {s : Shared} {σ : St} {H : Hp} (I : Inv X pins σ H s) (cok : CompOk scope X.env.scope xs N' X.N) : closureFor scope X.env = pure (closL X.env.cells scope.names []) := by
  refine clos_eq fun p hp hk => ?_
  have : X.env.scope.names.lookup p.1 = some .cell ∨ X.env.scope.names.lookup p.1 = some .free := by
    have := List.all_eq_true.mp cok.frees p hp
    simp [hk] at this
    exact this
  exact I.ok.has p.1 this
theorem pe_comp (hc : X.calm = true) (cok : CompOk scope X.env.scope xs N' X.N) (hi : PI X target iter wi)
    (hg : ∀ C s H pins fp, PG (cxComp X scope (xs ++ N') C s H pins fp) target g) (ht : ∀ C s H pins fp, PTs (cxComp X scope (xs ++ N') C s H pins fp) ifs tc) (he : ∀ C s H pins fp, PE (cxComp X scope (xs ++ N') C s H pins fp) elt te)
    (hs : ∀ x, foldedSetIterable iter X.env x = pure x := by intro _; rfl) : PE X (.ListComp elt [⟨target, iter, ifs, 0⟩] scope pos) (tComp xs.length wi g tc te) := by
  intro pins s σ H Q I h
  rw [eval_ListComp]
  refine wpAny_comprehension_free (use := none) rfl hs (clos_of I cok) cok.kind cok.own (comp_block hc cok hi hg ht he I h fun a C m H' s' J fC hn q => ⟨m, hn, fun h' hs' => ?_⟩)
  obtain ⟨f0, f1, f2, f3, f4, f5⟩ := fC
  exact ⟨.ref a, H', J.turned (t' := s'.toks) (fun b o hb e => (hs'.2 b hb).trans e) f0 f1 f3 f4 f5, rfl, q⟩
end
end L2

set_option maxHeartbeats 4000000
namespace L2
open PySem PySem.Spec PyProof.Rows
def RawF (K : PySem.W.Frag) (mg : Str → Option Value) (x : Str) (st : Stmt) (ps : List Str) (dvs : List V) : Prop :=
  ∃ (f : Addr) (oc : Value) (od : Option Addr) (dV kV doc pm : Value) (an : Option Addr) (cdv ct : Value) (osl : Array (Option Value)) (ds : List Value),
    K.lookup f = some ⟨oc, od, .func (PySem.W.fnOf x x (defArgs st) (defBody st) (defScope st) dV kV doc pm an cdv ct), osl⟩ ∧ PySem.W.codeIn K cdv x = true ∧ PySem.W.keepIn K (.ref f) = true ∧
    mg x = some (.ref f) ∧ Binds K (PySem.W.fnOf x x (defArgs st) (defBody st) (defScope st) dV kV doc pm an cdv ct) ps ds ∧ Vals dvs ds
def HasFn (P : Program) (w : World) (K : PySem.W.Frag) (mg : Str → Option Value) (base : Heap) (k : Nat) (x : Str) (ps : List Str) (sp : Sp) (dvs : List V) : Prop :=
  ∃ f fd ds, FnOk P w K mg base (CXE P w) k f fd ps sp ∧ mg x = some (.ref f) ∧ PySem.W.keepIn K (.ref f) = true ∧ Binds K fd ps ds ∧ Vals dvs ds
section
variable {P : Program} {w : World} {K : PySem.W.Frag} {mg : Str → Option Value} {base : Heap} {C : Addr} {x m qual : Str} {st : Stmt} {N ps : List Str} {dvs : List V} {k : Nat} {sp : Sp}
theorem RawF.ok (R : RawF K mg x st ps dvs) (S : FnScope N ps (defScope st)) (len : ∀ vs H Q E, sp vs H Q E → vs.length = ps.length)
    (hbody : ∀ (f : Addr) (cdv : Value) (A : Around) (outer : List Env) (s : Shared) (H : Hp) (vs : List V) (Q : VK) (E : XK), Room k (A.deeper (envOfC x (defScope st) s.heap.objs.size f cdv)) → sp vs H Q E →
      ∃ t, PSs (cxOf (CXE P w) P w K mg base N x (defScope st) f cdv A outer s H E) (defBody st) t ∧ t { nx := fun _ H' => Q .non H', rt := Q } (start N vs) H) : HasFn P w K mg base (k + 1) x ps sp dvs := by
  obtain ⟨f, oc, od, dV, kV, doc, pm, an, cdv, ct, osl, ds, lk, hcd, kp, hm, hb, hd⟩ := R
  exact ⟨f, _, ds, fn_of lk hcd S len fun A outer s H vs Q E hr hsp => hbody f cdv A outer s H vs Q E hr hsp, hm, kp, hb, hd⟩
end
section
variable {X : Cx} {C : Addr} {k : Nat} {ps : List Str} {sp : Sp} {dvs : List V} {E : St → XK} {x m : Str} {p pos apos : Pos} {e o : Expr} {es : List Expr} {ta : TE} {t : TA}
theorem pe_fn (h : HasFn X.prog X.w X.K X.mg X.base k x ps sp dvs) (hr : Room k X.A) (hg : Gl X x) (hx : PassesX (CXE X.prog X.w) X E)
    (ha : PA X (e :: es) t) (hdb : (x == ("__debug__" : Str)) = false := by decide) (he : starEach (e :: es) X.env = (false, eval e X.env) :: starEach es X.env := by rfl) (hpl : (backTo pos (starEach es X.env)).any (·.1) = false := by rfl) :
    PE X (.Call (.Name x p) (e :: es) [] pos) (tCallX sp dvs E t) := by
  obtain ⟨f, fd, ds, F, hm, hk, hb, hd⟩ := h
  exact pe_callX F hr hg hm hk hb hd hx ha hdb he hpl
theorem pass_none {P : Program} {w : World} : PassesX (CXE P w) X (fun _ => E0) := fun _ _ _ _ _ _ _ hx => by
  obtain ⟨_, _, _, _, _, _, _, _, _, _, q⟩ := hx
  exact q.elim
theorem pe_globI {n : Int} (hg : Gl X x) (hm : ∃ t, X.mg x = some (.int n t)) (hd : (x == ("__debug__" : Str)) = false := by decide) : PE X (.Name x pos) (tC (.int n)) := by
  obtain ⟨t, hm⟩ := hm
  exact pe_glob hg hm ⟨t, rfl⟩ hd
end
section
variable {X : Cx} {K : PySem.W.Frag}
end
theorem iteN {c A B : Prop} [Decidable c] (h1 : ¬ c → A) (h2 : c → B) : if (!decide c) = true then A else B := by
  by_cases h : c
  · rw [decide_eq_true h]; exact iteF (h2 h)
  · rw [decide_eq_false h]; exact iteT (h1 h)
theorem iteD {c A B : Prop} [Decidable c] (h1 : c → A) (h2 : ¬ c → B) : if decide c = true then A else B := by
  by_cases h : c
  · rw [decide_eq_true h]; exact iteT (h1 h)
  · rw [decide_eq_false h]; exact iteF (h2 h)
theorem iteI {i j : Int} {A B : Prop} (h1 : i = j → A) (h2 : ¬ i = j → B) : if decide (V.int i = V.int j) = true then A else B :=
  iteD (fun z => h1 (by injection z)) fun z => h2 fun q => z (by rw [q])
theorem one_line : 1 ≤ sizeLine := by rw [sizeLine_eq]; decide
theorem small_line {n : Nat} (h : n ≤ 1000) : n ≤ sizeLine := by rw [sizeLine_eq]; omega
theorem same_upd {H : Hp} {q : Addr} {u : HO} (h : H q = none) : Same H (upd H q u) := fun b o z => by rw [upd_ne (ne_of_none z h)]; exact z
theorem kit_self (K : PySem.W.Frag) (v : Value) : PySem.W.kitOne K v v = some true := by
  unfold PySem.W.kitOne
  rw [if_pos (by simp)]
theorem kit_ib (K : PySem.W.Frag) : PySem.W.kitOne K (.type "int") (.type "bool") = some false := by
  unfold PySem.W.kitOne PySem.W.kitCls
  rw [if_neg (by decide)]
  have h1 : PySem.W.kitMeta "bool" = true := by decide +kernel
  simp only [h1, if_true]
  show Option.map (fun x => x.contains (Value.type "bool")) (fastBuiltinMro "int") = some false
  decide +kernel
theorem cut_ints (ns : List Int) (lo hi : Option Int) : ∃ ms : List Int, cutV (ns.map V.int) lo hi = ms.map V.int ∧ ms.length ≤ ns.length := by
  unfold cutV
  refine ⟨(ns.drop (HT.sIx (ns.map V.int).length 0 lo)).take (HT.sIx (ns.map V.int).length (ns.map V.int).length hi - HT.sIx (ns.map V.int).length 0 lo), ?_, ?_⟩
  · rw [List.map_take, List.map_drop]
  · rw [List.length_take, List.length_drop]; omega
theorem mem_ints {ms : List Int} {i : Nat} {y : V} (h : (ms.map V.int)[i]? = some y) : ∃ c : Int, y = .int c ∧ ms[i]? = some c := by
  rw [List.getElem?_map] at h
  cases e : ms[i]? with
  | none => rw [e] at h; cases h
  | some c => rw [e] at h; exact ⟨c, (Option.some.inj h).symm, rfl⟩
end L2

set_option maxHeartbeats 4000000
namespace L2
open PySem PySem.Spec PyProof.Rows
section
variable {tc : TT} {te : TE} {σ : St} {H1 : Hp} {acc : Addr} {QH : Hp → Prop}
theorem comp_range {lo : Int} {n k : Nat} (hacc : H1 acc = none) (f : Nat → V) (p : Nat → Bool) (hn : n < sizeLine)
    (hc : ∀ (i : Nat) (ys : List V), i < n → ∀ R : Bool → Hp → Prop, R (p i) (upd H1 acc (.lst ys)) → tc (some (.int (lo + i)) :: σ) (upd H1 acc (.lst ys)) R)
    (he : ∀ (i : Nat) (ys : List V), i < n → p i = true → ∀ R : VK, R (f i) (upd H1 acc (.lst ys)) → te (some (.int (lo + i)) :: σ) (upd H1 acc (.lst ys)) R)
    (q : QH (upd H1 acc (.lst (((List.range n).filter p).map f)))) (hk : k = 1 := by rfl) : ∃ (W : Nat → List V → Hp → Prop) (n' : Nat), W 0 [] (upd H1 acc (.lst [])) ∧
  ∀ i ys H2, W i ys H2 → H2 acc = some (.lst ys) ∧ ys.length < sizeLine ∧ ((i = n' ∧ (Itr lo n).stop i H2 ∧ QH H2) ∨ (i < n' ∧ (Itr lo n).go i H2 ∧ ∀ x H3, (Itr lo n).yld i H2 x H3 → ∀ τ : St, τ.length = k → (gName 0) x (τ ++ σ) H3 fun τ2 H4 =>
    (∃ τ' : St, τ'.length = k ∧ τ2 = τ' ++ σ) ∧ tc τ2 H4 fun b H5 => if b = true then te τ2 H5 fun v H6 => H6 acc = some (.lst ys) ∧ W (i + 1) (ys ++ [v]) (upd H6 acc (.lst (ys ++ [v]))) else W (i + 1) ys H5)) := by
  subst hk
  refine ⟨fun i ys H2 => i ≤ n ∧ ys = ((List.range i).filter p).map f ∧ H2 = upd H1 acc (.lst ys), n, ⟨Nat.zero_le _, rfl, rfl⟩, ?_⟩
  rintro i ys H2 ⟨hi, hys, rfl⟩
  have hl : ys.length < sizeLine := by
    rw [hys, List.length_map]
    have := List.length_filter_le p (List.range i)
    rw [List.length_range] at this
    omega
  refine ⟨upd_same, hl, ?_⟩
  by_cases hlt : i < n
  · refine .inr ⟨hlt, hlt, ?_⟩
    rintro x H3 ⟨rfl, rfl⟩ τ hτ
    obtain ⟨t, rfl⟩ : ∃ t, τ = [t] := by
      match τ, hτ with
      | [t], _ => exact ⟨t, rfl⟩
    refine ⟨⟨[some (.int (lo + i))], rfl, rfl⟩, ?_⟩
    show tc (some (.int (lo + i)) :: σ) _ _
    refine hc i ys hlt _ ?_
    have rs : List.range (i + 1) = List.range i ++ [i] := List.range_succ
    cases hp : p i with
    | true =>
      refine iteT (he i ys hlt hp _ ⟨upd_same, hlt, ?_, upd_upd⟩)
      rw [rs, List.filter_append, List.map_append, hys]
      simp [List.filter, hp]
    | false =>
      refine iteF ⟨hlt, ?_, rfl⟩
      rw [rs, List.filter_append, List.map_append, hys]
      simp [List.filter, hp]
  · have e : i = n := by omega
    subst e
    refine .inl ⟨rfl, Nat.le_refl _, ?_⟩
    have := q
    rw [← hys] at this
    exact this
end
section
variable {X : Cx} {pins : List (Addr × Obj)} {σ : St} {H : Hp} {s : Shared}
end
end L2

set_option maxHeartbeats 4000000
namespace L2
open PySem PySem.Spec PyProof.Rows PyProof.V PySem.SeqAt
section
variable {K : PySem.W.Frag} {H : Hp} {x y : V} {d : PyData} {Q : VK} {n : Nat}
end
end L2

namespace L2
open PySem PySem.Spec PyProof.Rows
section
variable {X : Cx}
end
def notStar : Expr → Bool
  | .Starred _ _ => false
  | _ => true
theorem star_cons {e : Expr} {es : List Expr} {env : Env} (h : notStar e = true) : starEach (e :: es) env = (false, eval e env) :: starEach es env := by
  cases e <;> first | rfl | cases h
theorem pa_cn {X : Cx} {e : Expr} {es : List Expr} {te : TE} {t : TA} (ha : PE X e te) (hr : PA X es t) (h : notStar e = true) : PA X (e :: es) (tCons te t) := pa_cons ha hr (star_cons h)
theorem exW {p : (Nat → Nat → St → Hp → Prop) → Prop} (w : Nat → Nat → St → Hp → Prop) (h : p w) : ∃ w, p w := ⟨w, h⟩
theorem exN {p : (St → Hp → Prop) → Prop} (w : St → Hp → Prop) (h : p w) : ∃ w, p w := ⟨w, h⟩
theorem exD {p : PyData → Prop} (w : PyData) (h : p w) : ∃ w, p w := ⟨w, h⟩
theorem exW2 {p : (Nat → St → Hp → Prop) → Prop} (w : Nat → St → Hp → Prop) (h : p w) : ∃ w, p w := ⟨w, h⟩
theorem up_old {H : Hp} {q b : Addr} {u o : HO} (h : H q = none) (e : H b = some o) : upd H q u b = some o := same_upd h b o e
theorem up_ne {H : Hp} {q b : Addr} {u o : HO} (h : b ≠ q) (e : H b = some o) : upd H q u b = some o := by rw [upd_ne h]; exact e
theorem lk_next {f g : Str} {v : V} {r : List (Str × V)} {o : Option V} (h : ¬ g = f) (e : r.lookup g = o) : ((f, v) :: r).lookup g = o := by
  have hb : (g == f) = false := beq_eq_false_iff_ne.mpr h
  simp only [List.lookup, hb]
  exact e
theorem sm_upd {H H' : Hp} {q : Addr} {u : HO} (h : H' q = none) (e : Same H H') : Same H (upd H' q u) := e.trans (same_upd h)
theorem lk_eq {f : Str} {v : V} {r : List (Str × V)} : ((f, v) :: r).lookup f = some v := by
  have hb : (f == f) = true := beq_iff_eq.mpr rfl
  simp only [List.lookup, hb]
section
variable {X : Cx}
end
section
variable {X : Cx}
end
section
variable {X : Cx}
end
end L2

set_option maxHeartbeats 4000000
namespace L2
open PySem PySem.Spec PyProof.Rows
end L2

set_option maxHeartbeats 4000000
namespace L2
open PySem PySem.Spec PyProof.Rows
section
variable {P : Program} {w : World} {K : PySem.W.Frag} {mg : Str → Option Value} {base : Heap} {C : Addr} {x m qual : Str} {st : Stmt} {N ps : List Str} {dvs : List V} {k : Nat} {sp : Sp}
end
section
variable {X : Cx} {C : Addr} {k : Nat} {ps : List Str} {sp : Sp} {dvs : List V} {E : St → XK} {x m : Str} {p pos apos : Pos} {e o : Expr} {es : List Expr} {ta : TE} {t : TA}
end
section
variable {X : Cx} {P : Program} {w : World} {K : PySem.W.Frag} {mg : Str → Option Value} {base : Heap} {m : Str} {dvs : List V} {k : Nat} {E : St → XK} {ta : TE} {t : TA} {o e : Expr} {es : List Expr} {pos apos : Pos}
end
section
variable {X : Cx} {a : Addr} {x : Str} {i : Expr} {ty : TE} {p pos : Pos}
end
section
variable {P : Program} {w : World} {K : PySem.W.Frag} {mg : Str → Option Value} {base : Heap} {C f : Addr} {m : Str} {ps : List Str} {dvs : List V} {ds : List Value} {k : Nat} {sp : Sp} {fd : FuncData}
end
section
variable {X : Cx} {x : Str} {pos : Pos}
theorem pe_globS {n : Str} (hg : Gl X x) (hm : ∃ t, X.mg x = some (.str n t)) (hd : (x == ("__debug__" : Str)) = false := by decide) : PE X (.Name x pos) (tC (.str n)) := by
  obtain ⟨t, hm⟩ := hm
  exact pe_glob hg hm ⟨t, rfl⟩ hd
end
end L2

set_option maxHeartbeats 4000000
namespace L2
open PySem PySem.Spec PyProof.Rows
section
variable {X : Cx}
theorem strs_are : ∀ {ys : List Str} {us : List Value}, Vals (ys.map V.str) us → StrsAre us ys
  | [], _, .nil => .nil
  | y :: ys, _, .cons r t => by
    obtain ⟨k, rfl⟩ := r
    exact .cons y k (strs_are t)
def rJoin : V → List V → Hp → VK → Prop := fun x vs H Q => ∃ (y : Str) (l : Addr) (ys : List Str), x = .str y ∧ vs = [.ref l] ∧ H l = some (.lst (ys.map V.str)) ∧ y.length ≤ 16 ∧ (ys.map fun x => x.length).sum + ys.length ≤ 1048576 ∧ Q (.str (Txt.join y ys)) H
theorem mt_join : MtM X "str.join" rJoin := by
  intro pins s σ H x vs v us Q I rx rv h
  obtain ⟨y, l, ys, rfl, rfl, hl, h1, h2, q⟩ := h
  obtain ⟨t, rfl⟩ := rx
  obtain ⟨u, rfl, ru⟩ := vals1 rv
  cases ru
  obtain ⟨its, r, p, hz⟩ := I.list (SqL.of hl)
  exact join_listW p.isList (by simpa using strs_are r) h1 h2 fun t' k => ⟨.str _, H, I.tok _, ⟨_, rfl⟩, q⟩
def rSlS : V → Option Int → Option Int → Hp → VK → Prop := fun x lo hi H Q => ∃ y, x = .str y ∧ y.length ≤ sizeLine ∧ Q (.str (Txt.slice y lo hi)) H
theorem part_of {v : Value} {o : Option Int} (h : IsPart v o) : ∃ l : Option (Int × Tok), partValue l = v ∧ l.map (·.1) = o := by
  cases h
  · exact ⟨none, rfl, rfl⟩
  · exact ⟨some (_, _), rfl, rfl⟩
theorem sl_str : SlR X rSlS := by
  intro pins s σ H x v vl vu lo hi sl Q I rx hs pl pu h
  obtain ⟨y, rfl, hy, q⟩ := h
  obtain ⟨t, rfl⟩ := rx
  obtain ⟨l, el, ml⟩ := part_of pl
  obtain ⟨u, eu, mu⟩ := part_of pu
  refine ⟨"str", _, PySem.F.slot_str_getitem.lookup, ?_, ?_⟩
  · trivial
  · refine wpAny_getItem_str_slice (l := l) (u := u) (st := none) ?_ rfl ?_
    · subst el; subst eu
      obtain ⟨o, h1, h2, h3⟩ := hs
      exact ⟨o, h1, h2, h3⟩
    · subst ml; subst mu
      unfold sliceMade slicePicked
      have le := Txt.slice_le y (l.map (·.1)) (u.map (·.1))
      unfold Txt.slice at q le
      simp only [Option.map_none, Option.getD_none]
      split at q
      · next c => rw [if_pos c]; exact ⟨.str y, H, I, ⟨t, rfl⟩, q⟩
      · next c => rw [if_neg c] at le ⊢; exact ⟨Nat.le_trans le hy, .str _, H, I.tok _, ⟨_, rfl⟩, q⟩
end
end L2

set_option maxHeartbeats 4000000
namespace L2
open PySem PySem.Spec PyProof.Rows
def Its (x : Str) : It := ⟨fun i _ => i < x.cps.size, fun i H v H' => H' = H ∧ ∃ c, x.cps[i]? = some c ∧ v = .str ⟨#[c]⟩, fun i _ => i = x.cps.size⟩
theorem turn_str {P : Program} {w : World} {K : PySem.W.Frag} {tg : Expr} (it : Addr) (x : Str) (t : Tok) (ty : String)
    (hn : ["enumerate", "zip", "dict_itemiterator", "dict_reverseitemiterator", "odict_iterator", "itertools.zip_longest", "itertools.pairwise"].contains ty = false)
    (W : ∀ A' : Around, A'.handled = none → Walks P w A' it [it] [it] x.cps.size (SignAt x) (fun i h => h.IsStrIter it ty x t i))
    (hs : ∀ (A : Around) (i : Nat) (s : Shared) (Q : Value → Shared → Prop) (E : Value → Shared → Prop), s.heap.IsStrIter it ty x t i → Q (.ref it) s → wpAny (model P w) A (pyIter (.ref it)) Q E s) :
    Turn P w K tg (Its x) [it] it (fun i h => h.IsStrIter it ty x t i) where
  mem := by simp
  obj := fun i h st b hb => by
    have e : b = it := by simpa using hb
    subst e
    obtain ⟨o, e, c, d⟩ := st
    exact ⟨o, e, fun v z => by rw [d] at z; cases z⟩
  keep := fun i h h' st k => by
    obtain ⟨o, e, r⟩ := st
    exact ⟨o, k it (by simp) o e, r⟩
  item := by
    intro X hP hw hK hc i pins s σ H E I hf st hg
    subst hP hw hK
    obtain ⟨f0, f1, f2, f3, f4, f5⟩ := hf it (by simp)
    refine (W X.A (I.ok.hd hc)).item i s _ _ hg st fun v h' tk hv st' kk => ?_
    obtain ⟨c, u, hcx, rfl⟩ := hv
    have I1 : Inv X pins σ H { s with heap := h', toks := tk } := I.turned (fun b o hb e => kk b o (by simpa using hb) e) f0 f1 f3 f4 f5
    obtain ⟨o, e, c1, d⟩ := id st'
    exact ⟨_, rfl, go_of (s := { s with heap := h', toks := tk }) e c1 d hn ⟨.str ⟨#[c]⟩, H, I1, ⟨u, rfl⟩, ⟨rfl, c, hcx, rfl⟩, st', fun b hb => (hf b hb).1⟩⟩
  done := by
    intro X hP hw hK hc i pins s σ H E I hf st hg
    subst hP hw hK
    obtain ⟨f0, f1, f2, f3, f4, f5⟩ := hf it (by simp)
    have hg : i = x.cps.size := hg
    subst hg
    exact (W X.A (I.ok.hd hc)).done s _ _ st fun h' tk kk => ⟨rfl, I.turned (fun b o hb e => kk b o (by simpa using hb) e) f0 f1 f3 f4 f5⟩
  self := hs
section
variable {X : Cx} {tg : Expr}
def iStr (tl : TE) : TI := fun σ H R => tl σ H fun x H1 => ∃ y, x = .str y ∧ R (Its y) H1
theorem pi_str {l : Expr} {tl : TE} (hl : PE X l tl) : PI X tg l (iStr tl) := by
  intro pins s σ H R I h
  refine thn (hl pins s σ H _ I h) fun v s1 ⟨x, H1, I1, r1, q1⟩ => ?_
  obtain ⟨y, e, q⟩ := q1
  subst e
  obtain ⟨t, rfl⟩ := r1
  have fin : ∀ (o : Obj) (tn : Nat → Heap → Prop), Turn X.prog X.w X.K tg (Its y) [s1.heap.objs.size] s1.heap.objs.size tn → tn 0 (s1.heap.push o) → PIE X pins σ tg R (.ref s1.heap.objs.size) { s1 with heap := s1.heap.push o } := fun o tn ht h0 => by
    refine ⟨s1.heap.objs.size, [s1.heap.objs.size], tn, _, H1, rfl, I1.kept (t' := s1.toks) fun b o e => Heap.get?_push_of_some _ e, ht, h0, fun b hb => ?_, q⟩
    have e : b = s1.heap.objs.size := by simpa using hb
    subst e
    exact I1.fpOk (Nat.le_refl _) (I1.hok.fresh (Nat.le_refl _))
  cases ha : y.cps.all (· < 128)
  · exact wpAny_pyIter_wide ha (fin _ _ (turn_str _ y t "str_iterator" (by decide) (fun A' hA => Walks.strWide hA _ y t) fun _ _ _ _ _ st h => wpAny_pyIter_striter_wide st h) ⟨_, Heap.get?_push_size _ rfl, rfl, rfl⟩)
  · exact wpAny_pyIter_ascii ha (fin _ _ (turn_str _ y t "str_ascii_iterator" (by decide) (fun A' hA => Walks.strAscii hA _ y t) fun _ _ _ _ _ st h => wpAny_pyIter_striter_ascii st h) ⟨_, Heap.get?_push_size _ rfl, rfl, rfl⟩)
def rFind : V → List V → Hp → VK → Prop := fun x vs H Q => ∃ (y z : Str), x = .str y ∧ vs = [.str z] ∧ Q (.int (Txt.find y z)) H
theorem mt_find : MtM X "str.find" rFind := by
  intro pins s σ H x vs v us Q I rx rv h
  obtain ⟨y, z, rfl, rfl, q⟩ := h
  obtain ⟨t, rfl⟩ := rx
  obtain ⟨u, rfl, ru⟩ := vals1 rv
  obtain ⟨k, rfl⟩ := ru
  exact SC.find ⟨.int (Txt.find y z), H, I.tok _, ⟨_, rfl⟩, q⟩
end
theorem for_str {x : Str} {g : TG} {tb : TS} {D : Ends} {σ : St} {H : Hp} (Pv : Nat → St → Hp → Prop) (h0 : Pv 0 σ H)
    (hs : ∀ i c σ H, x.cps[i]? = some c → Pv i σ H → g (.str ⟨#[c]⟩) σ H fun σ2 H2 => tb { D with nx := Pv (i + 1), ct := Pv (i + 1), bk := D.nx } σ2 H2) (hd : ∀ σ H, Pv x.cps.size σ H → D.nx σ H) :
    ∃ W : Nat → Nat → St → Hp → Prop, (∃ m, W 0 m σ H) ∧ ∀ i m σ H, W i m σ H →
      ((Its x).stop i H ∧ D.nx σ H) ∨ ((Its x).go i H ∧ ∃ N : St → Hp → Prop, (∀ σ' H', N σ' H' → ∃ m', m' < m ∧ W (i + 1) m' σ' H') ∧ ∀ v H', (Its x).yld i H v H' → g v σ H' fun σ2 H2 => tb { D with nx := N, ct := N, bk := D.nx } σ2 H2) := by
  refine ⟨fun i m σ H => m = x.cps.size - i ∧ i ≤ x.cps.size ∧ Pv i σ H, ⟨x.cps.size, by simp, Nat.zero_le _, h0⟩, ?_⟩
  rintro i m σ H ⟨rfl, hi, p⟩
  by_cases hlt : i < x.cps.size
  · refine .inr ⟨hlt, Pv (i + 1), fun σ' H' p' => ⟨x.cps.size - (i + 1), by omega, rfl, hlt, p'⟩, fun v H' y => ?_⟩
    obtain ⟨e, c, hc, rfl⟩ := y
    subst e
    exact hs i c σ _ hc p
  · have e : i = x.cps.size := by omega
    subst e
    exact .inl ⟨rfl, hd σ H p⟩
end L2

set_option maxHeartbeats 4000000
local macro_rules | `(tactic| walk_at "lk") => `(tactic| first | exact L2.lk_eq | (apply L2.lk_next; (first | done | decide +kernel); walk_at "lk") | exact rfl)
local macro_rules | `(tactic| walk_at "hp") => `(tactic| first | assumption | exact L2.upd_same | (apply L2.up_old; (first | done | assumption); walk_at "hp") | (apply L2.up_ne; (first | done | assumption); walk_at "hp"))
local macro_rules | `(tactic| walk_at "ty") => `(tactic| first | assumption | exact L2.TyE.of (L2.TyOf.int _) | exact L2.TyE.of (L2.TyOf.bl _) | exact L2.TyE.of L2.TyOf.non | exact L2.TyE.of (L2.TyOf.str _) | (apply L2.TyE.of; apply L2.TyOf.lst; walk_at "hp") | (apply L2.TyE.of; apply L2.TyOf.tup; walk_at "hp") | (apply L2.TyE.of; apply L2.TyOf.dK; walk_at "hp"))
local macro_rules | `(tactic| walk_at "cl") => `(tactic| first | (with_reducible show (_ : Int) ≤ _; omega) | (with_reducible show (_ : Int) < _; omega) | (with_reducible show (_ : Nat) ≤ _; omega) | (with_reducible show (_ : Nat) < _; omega) | (with_reducible assumption) | exact rfl | assumption | (with_reducible apply L2.SqL.of; walk_at "hp") | (with_reducible apply L2.SqT.of; walk_at "hp") | walk_at "hp" | ((with_reducible apply Or.inl); assumption) | ((with_reducible apply Or.inr); assumption) | (with_reducible apply Or.inl; with_reducible apply L2.SqL.of; walk_at "hp") | (with_reducible apply Or.inr; with_reducible apply L2.SqT.of; walk_at "hp") | (apply Or.inl; refine And.intro rfl ?_; apply Exists.intro; apply L2.SqL.of; walk_at "hp") | walk_at "lk" | walk_at "ty" | exact L2.kit_self _ _ | exact L2.kit_ib _ | exact L2.one_line | exact L2.small_line (Nat.le_of_ble_eq_true rfl) | (show List.length _ < _; exact Nat.le_of_ble_eq_true rfl) | omega | (apply Exists.intro; with_reducible apply L2.SqL.of; walk_at "hp") | (apply Exists.intro; with_reducible apply L2.SqT.of; walk_at "hp") | (apply Or.inr; refine ⟨?_, ?_⟩ <;> omega) | (apply Or.inl; refine ⟨?_, ?_⟩ <;> omega) | decide | (show (0 : Int) < _; first | decide | omega | assumption) | (refine ⟨?_, ?_⟩ <;> decide) | (refine ⟨?_, ?_, ?_⟩ <;> decide) )
local macro_rules | `(tactic| walk_at "sm") => `(tactic| first | assumption | exact L2.Same.refl _ | (apply L2.sm_upd; (first | done | assumption); walk_at "sm"))
local macro_rules | `(tactic| walk_at "ex") => `(tactic| ((fail_if_success (refine L2.exW ?_ ?_)); (fail_if_success (refine L2.exW2 ?_ ?_)); (fail_if_success (refine L2.exN ?_ ?_)); (fail_if_success (refine L2.exD ?_ ?_)); apply Exists.intro))
local macro_rules | `(tactic| walk_at "go") => `(tactic| repeat (first | (apply And.intro; (walk_at "cl")) | walk_at "ex"))
local macro_rules | `(tactic| walk_at "gi") => `(tactic| repeat (first | (apply And.intro; (walk_at "cl")) | walk_at "ex" | intro))
namespace K51
open PySem L2
def top (i : Nat) : Stmt := PySem.Challenge.pw_leafframe_k51_numbers_written.main.body.getD i (.Pass ⟨0, 0, 0, 0⟩)
abbrev s_shown_number : Stmt := top 10
abbrev s_read_number : Stmt := top 11
abbrev s__law_whole : Stmt := top 13
abbrev s__law_drawn : Stmt := top 14
abbrev s__law_text_of : Stmt := top 15
abbrev s__law_value : Stmt := top 16
abbrev s__law_read : Stmt := top 17
abbrev s__law_read_so : Stmt := top 18
abbrev s__law_number : Stmt := top 19
abbrev s__law_text : Stmt := top 20
abbrev s_law : Stmt := top 21
abbrev n_shown_number : List Str := ["number", "text", "rest"]
theorem sc_shown_number : FnScope n_shown_number ["number"] (defScope s_shown_number) := ⟨rfl, rfl, rfl, by decide +kernel, rfl, by decide +kernel, by decide +kernel⟩
abbrev n_read_number : List Str := ["text", "number", "sign", "figure"]
theorem sc_read_number : FnScope n_read_number ["text"] (defScope s_read_number) := ⟨rfl, rfl, rfl, by decide +kernel, rfl, by decide +kernel, by decide +kernel⟩
abbrev n__law_whole : List Str := ["_law_found"]
theorem sc__law_whole : FnScope n__law_whole ["_law_found"] (defScope s__law_whole) := ⟨rfl, rfl, rfl, by decide +kernel, rfl, by decide +kernel, by decide +kernel⟩
abbrev n__law_drawn : List Str := ["_law_cell", "_law_by", "_law_prime", "_law_many"]
theorem sc__law_drawn : FnScope n__law_drawn ["_law_cell", "_law_by", "_law_prime", "_law_many"] (defScope s__law_drawn) := ⟨rfl, rfl, rfl, by decide +kernel, rfl, by decide +kernel, by decide +kernel⟩
abbrev n__law_text_of : List Str := ["_law_number_here", "_law_figures", "_law_text_here", "_law_last"]
theorem sc__law_text_of : FnScope n__law_text_of ["_law_number_here"] (defScope s__law_text_of) := ⟨rfl, rfl, rfl, by decide +kernel, rfl, by decide +kernel, by decide +kernel⟩
abbrev n__law_value : List Str := ["_law_text_here", "_law_figures", "_law_number_here", "_law_sign"]
theorem sc__law_value : FnScope n__law_value ["_law_text_here"] (defScope s__law_value) := ⟨rfl, rfl, rfl, by decide +kernel, rfl, by decide +kernel, by decide +kernel⟩
abbrev n__law_read : List Str := ["_law_text_here", "_law_found", "_law_refusal", "e"]
theorem sc__law_read : FnScope n__law_read ["_law_text_here"] (defScope s__law_read) := ⟨rfl, rfl, rfl, by decide +kernel, rfl, by decide +kernel, by decide +kernel⟩
abbrev n__law_read_so : List Str := ["_law_text_here", "_law_due", "_law_found", "_law_refusal"]
theorem sc__law_read_so : FnScope n__law_read_so ["_law_text_here", "_law_due"] (defScope s__law_read_so) := ⟨rfl, rfl, rfl, by decide +kernel, rfl, by decide +kernel, by decide +kernel⟩
abbrev n__law_number : List Str := ["_law_cell", "_law_way", "_law_number_here"]
theorem sc__law_number : FnScope n__law_number ["_law_cell"] (defScope s__law_number) := ⟨rfl, rfl, rfl, by decide +kernel, rfl, by decide +kernel, by decide +kernel⟩
abbrev n__law_text : List Str := ["_law_cell", "_law_figures", "_law_signs", "_law_size", "_law_text_here", "_law_way", "_law_at", "_law_sign"]
theorem sc__law_text : FnScope n__law_text ["_law_cell"] (defScope s__law_text) := ⟨rfl, rfl, rfl, by decide +kernel, rfl, by decide +kernel, by decide +kernel⟩
abbrev n_law : List Str := ["_law_script", "_law_cell", "_law_number_here", "_law_text_here", "_law_due", "_law_other"]
theorem sc_law : FnScope n_law ["_law_script"] (defScope s_law) := ⟨rfl, rfl, rfl, by decide +kernel, rfl, by decide +kernel, by decide +kernel⟩
structure Adr where
  (c_LeafError c_NoNumber c_NoWord c_NoName c_NoText c_NoRow : Addr)
structure Txt (K : PySem.W.Frag) (mg : Str → Option Value) (a : Adr) : Prop where
  x_LeafError : XCls K a.c_LeafError
  m_LeafError : mg "LeafError" = some (.ref a.c_LeafError)
  m_NoNumber : mg "NoNumber" = some (.ref a.c_NoNumber)
  m_NoWord : mg "NoWord" = some (.ref a.c_NoWord)
  m_NoName : mg "NoName" = some (.ref a.c_NoName)
  x_NoText : XCls K a.c_NoText
  m_NoText : mg "NoText" = some (.ref a.c_NoText)
  m_NoRow : mg "NoRow" = some (.ref a.c_NoRow)
  g_FIGURES : ∃ t, mg "FIGURES" = some (.str "0123456789abcdef" t)
  g_MOST_FIGURES : ∃ t, mg "MOST_FIGURES" = some (.int 20 t)
  b_ValueError : mg "ValueError" = none
  b_bool : mg "bool" = none
  b_divmod : mg "divmod" = none
  b_int : mg "int" = none
  b_isinstance : mg "isinstance" = none
  b_len : mg "len" = none
  b_range : mg "range" = none
  b_str : mg "str" = none
  i_NoText : XIs K a.c_NoText
  isk : IsK K
  k_TT : PySem.W.kitOne K (.ref a.c_NoText) (.ref a.c_NoText) = some true
  k_TV : PySem.W.kitOne K (.ref a.c_NoText) (.type "ValueError") = some true
  k_TA : PySem.W.kitAny K (.ref a.c_NoText) [.ref a.c_NoName, .ref a.c_NoNumber, .ref a.c_NoRow, .ref a.c_NoWord] = some false
  s_T : PySem.W.mroIn K a.c_NoText (.ref a.c_LeafError) = some true
def drawn (c b p m : Int) : Int := (c % 1000000007 + 1) * b % p / 5 % m
theorem drawn_0 (c b p : Int) {m : Int} (h : 0 < m) : 0 ≤ drawn c b p m := Int.emod_nonneg _ (by omega)
theorem drawn_lt (c b p : Int) {m : Int} (h : 0 < m) : drawn c b p m < m := Int.emod_lt_of_pos _ h
def spDrawn : Sp := fun vs H Q _ => ∃ c b p m : Int, vs = [.int c, .int b, .int p, .int m] ∧ (-(2 ^ 64) < b ∧ b < 2 ^ 64) ∧ 0 < p ∧ 0 < m ∧ Q (.int (drawn c b p m)) H
section
variable {P : Program} {w : World} {K : PySem.W.Frag} {mg : Str → Option Value} {base : Heap} {a : Adr}
theorem ok__law_drawn {dvs : List V} (R : RawF K mg "_law_drawn" s__law_drawn ["_law_cell", "_law_by", "_law_prime", "_law_many"] dvs) (T : Txt K mg a) :
    HasFn P w K mg base 1 "_law_drawn" ["_law_cell", "_law_by", "_law_prime", "_law_many"] (spDrawn) dvs := by
  refine R.ok sc__law_drawn (fun vs H Q E h => ?_) (fun f cdv A outer s H vs Q E hr h => ?_)
  · obtain ⟨c, b, p, m, rfl, _⟩ := h
    rfl
  obtain ⟨c, b, p, m, rfl, hb, hp, hm, q⟩ := h
  refine ⟨_, (@pss_one _ _ _ (@ps_ret _ _ _ _ (pe_op op_mod (pe_op op_fdiv (pe_op op_mod (pe_op op_mul (pe_op op_add (pe_op op_mod (pv 0) pe_int) pe_int) (pv 1)) (pv 2)) pe_int) (pv 3)))), ?_⟩
  walk_at "go"
  exact q
end
def figs : Str := "0123456789abcdef"
def figc (d : Nat) : Nat := if d < 10 then 48 + d else 87 + d
theorem find_fig {d : Nat} (h : d < 16) : Txt.find figs ⟨#[figc d]⟩ = d := (show ∀ d, d < 16 → Txt.find figs ⟨#[figc d]⟩ = (d : Int) by decide +kernel) d h
def hexS (n : Nat) : List Nat := if n < 16 then [figc n] else hexS (n / 16) ++ [figc (n % 16)]
termination_by n
decreasing_by omega
theorem hexS_lt {n : Nat} (h : n < 16) : hexS n = [figc n] := by rw [hexS, if_pos h]
theorem hexS_ge {n : Nat} (h : 16 ≤ n) : hexS n = hexS (n / 16) ++ [figc (n % 16)] := by rw [hexS, if_neg (by omega)]
def hex0 (n : Nat) : List Nat := if n = 0 then [] else hexS n
theorem hexS_0 (n : Nat) : hexS n = hex0 (n / 16) ++ [figc (n % 16)] := by
  by_cases h : n < 16
  · rw [hexS_lt h, show n / 16 = 0 by omega, show n % 16 = n by omega]; rfl
  · rw [hexS_ge (by omega)]
    unfold hex0
    rw [if_neg (by omega)]
theorem hex0_step {r : Nat} (h : 0 < r) : hex0 r = hex0 (r / 16) ++ [figc (r % 16)] := by
  rw [← hexS_0]
  unfold hex0
  rw [if_neg (by omega)]
theorem hexS_len : ∀ (k n : Nat), n < 16 ^ (k + 1) → (hexS n).length ≤ k + 1
  | 0, n, h => by rw [hexS_lt (by omega)]; exact Nat.le_refl _
  | k + 1, n, h => by
    by_cases c : n < 16
    · rw [hexS_lt c]; show 1 ≤ _; omega
    · rw [hexS_ge (by omega), List.length_append]
      have := hexS_len k (n / 16) (by rw [Nat.pow_succ] at h; omega)
      show _ + 1 ≤ _
      omega
theorem hexS_head (n : Nat) : ∃ c l, hexS n = c :: l ∧ (c = 48 → n = 0 ∧ l = []) := by
  induction n using Nat.strongRecOn with
  | _ n ih =>
    by_cases h : n < 16
    · refine ⟨_, _, hexS_lt h, fun e => ⟨?_, rfl⟩⟩
      unfold figc at e
      split at e <;> omega
    · obtain ⟨c, l, e, q⟩ := ih (n / 16) (by omega)
      refine ⟨c, l ++ [figc (n % 16)], by rw [hexS_ge (by omega), e]; rfl, fun z => ?_⟩
      have := (q z).1
      omega
def numF (a : Int) : List Nat → Option Int
  | [] => some a
  | c :: cs => if Txt.find figs ⟨#[c]⟩ < 0 then none else numF (a * 16 + Txt.find figs ⟨#[c]⟩) cs
theorem numF_app {a : Int} : ∀ {l l' : List Nat}, numF a (l ++ l') = (numF a l).bind fun b => numF b l'
  | [], _ => rfl
  | c :: l, l' => by
    rw [List.cons_append, numF, numF]
    split
    · rfl
    · exact numF_app
theorem numF_hex (n : Nat) : numF 0 (hexS n) = some (n : Int) := by
  induction n using Nat.strongRecOn with
  | _ n ih =>
    by_cases h : n < 16
    · rw [hexS_lt h, numF, find_fig h, if_neg (by omega), numF]
      congr 1
      omega
    · rw [hexS_ge (by omega), numF_app, ih (n / 16) (by omega)]
      show numF _ _ = _
      rw [numF, find_fig (by omega), if_neg (by omega), numF]
      congr 1
      omega
def readV (x : Str) : Option Int := if 1 ≤ x.length ∧ x.length ≤ 20 ∧ ¬ (x.cps.toList[0]? = some 48 ∧ x ≠ (⟨#[48]⟩ : Str)) then numF 0 x.cps.toList else none
theorem readV_hex (n : Nat) : readV ⟨(hexS n).toArray⟩ = if (hexS n).length ≤ 20 then some (n : Int) else none := by
  obtain ⟨c, l, e, q⟩ := hexS_head n
  unfold readV
  have hl : (⟨(hexS n).toArray⟩ : Str).length = (hexS n).length := by show (hexS n).toArray.size = _; simp
  have h1 : 1 ≤ (hexS n).length := by rw [e]; simp
  have hz : ¬ ((⟨(hexS n).toArray⟩ : Str).cps.toList[0]? = some 48 ∧ (⟨(hexS n).toArray⟩ : Str) ≠ (⟨#[48]⟩ : Str)) := by
    rintro ⟨h0, h2⟩
    apply h2
    have : (hexS n)[0]? = some 48 := by simpa using h0
    rw [e] at this ⊢
    have cz : c = 48 := by simpa using this
    rw [(q cz).2, cz]
  rw [hl]
  by_cases c20 : (hexS n).length ≤ 20
  · rw [if_pos ⟨h1, c20, hz⟩, if_pos c20]
    show numF 0 (hexS n).toArray.toList = _
    rw [List.toList_toArray]
    exact numF_hex n
  · rw [if_neg (fun z => c20 z.2.1), if_neg c20]
structure Bx (p : Prop) : Prop where
  o : p
def spShownN : Sp := fun vs H Q _ => ∃ n : Nat, vs = [.int n] ∧ (hexS n).length ≤ 1000 ∧ Q (.str ⟨(hexS n).toArray⟩) H
def spReadN (a : Adr) : Sp := fun vs H Q E => ∃ x : Str, vs = [.str x] ∧ x.length ≤ 1000 ∧ (∀ i, readV x = some i → Q (.int i) H) ∧ (readV x = none → E (.ref a.c_NoText) none H)
def spWhole : Sp := fun vs H Q _ => ∃ i, vs = [.int i] ∧ Q (.bl true) H
def spTextOf : Sp := fun vs H Q _ => ∃ n : Nat, vs = [.int n] ∧ (hexS n).length ≤ 1000 ∧ ∀ H', Same H H' → Q (.str ⟨(hexS n).toArray⟩) H'
def spValue51 : Sp := fun vs H Q _ => ∃ x : Str, vs = [.str x] ∧ x.length ≤ 1000 ∧ Q ((readV x).elim .non V.int) H
theorem and15 (n : Nat) : Builtin.bitAnd (n : Int) 15 = ((n % 16 : Nat) : Int) := by
  have := PySem.W.kbt_mask (n : Int) 4
  rw [show (2 ^ 4 - 1 : Int) = 15 from rfl, show (2 ^ 4 : Int) = 16 from rfl] at this
  rw [this]; omega
theorem fig_at {d : Nat} (h : d < 16) : atI figs.cps.toList ((d : Nat) : Int) = some (figc d) := (show ∀ d, d < 16 → atI figs.cps.toList ((d : Nat) : Int) = some (figc d) by decide +kernel) d h
theorem readV_len {x : Str} (h : ¬ (1 ≤ x.length ∧ x.length ≤ 20)) : readV x = none := if_neg fun z => h ⟨z.1, z.2.1⟩
theorem readV_zero {x : Str} (h : x.cps.toList[0]? = some 48) (h2 : x ≠ (⟨#[48]⟩ : Str)) : readV x = none := if_neg fun z => z.2.2 ⟨h, h2⟩
theorem readV_ok {x : Str} (h : 1 ≤ x.length) (h1 : x.length ≤ 20) (h2 : ¬ (x.cps.toList[0]? = some 48 ∧ x ≠ (⟨#[48]⟩ : Str))) : readV x = numF 0 x.cps.toList := if_pos ⟨h, h1, h2⟩
theorem str_0 : Str.ofString "0" = ⟨#[48]⟩ := by decide +kernel
theorem numF_step {a : Int} {x : Str} {i c : Nat} (h : x.cps[i]? = some c) : numF a (x.cps.toList.drop i) = if Txt.find figs ⟨#[c]⟩ < 0 then none else numF (a * 16 + Txt.find figs ⟨#[c]⟩) (x.cps.toList.drop (i + 1)) := by
  have hl : i < x.cps.toList.length := by
    have := (Array.getElem?_eq_some_iff.mp h).1
    simpa using this
  have e : x.cps.toList[i] = c := by
    have := (Array.getElem?_eq_some_iff.mp h).2
    simpa using this
  rw [List.drop_eq_getElem_cons hl, e]
  rfl
theorem first_at {x : Str} (h : 1 ≤ x.length) : ∃ c, x.cps.toList[0]? = some c := by
  have : 0 < x.cps.toList.length := by
    have e : x.cps.toList.length = x.length := by simp [Str.length]
    omega
  exact ⟨_, List.getElem?_eq_getElem this⟩
theorem one_48 {c : Nat} (h : V.str ⟨#[c]⟩ = V.str (Str.ofString "0")) : c = 48 := by
  rw [str_0] at h
  injection h with h
  injection h with h
  have : (#[c] : Array Nat)[0]? = (#[48] : Array Nat)[0]? := by rw [h]
  simpa using this
theorem str_ne {x : Str} (h : ¬ x = Str.ofString "") : 1 ≤ x.length := by
  rcases Nat.eq_zero_or_pos x.length with e | e
  · exact absurd (by
      obtain ⟨c⟩ := x
      have : c = #[] := Array.eq_empty_of_size_eq_zero e
      rw [this]; decide +kernel) h
  · exact e
theorem occ_dec (c : Nat) : (!(!(Builtin.Str.occurrences figs ⟨#[c]⟩ 0 figs.length 1).isEmpty)) = decide (Txt.find figs ⟨#[c]⟩ < 0) := by
  unfold Txt.find
  cases h : Builtin.Str.occurrences figs ⟨#[c]⟩ 0 figs.length 1 with
  | nil => rfl
  | cons a l => rw [decide_eq_false (by show ¬ ((a : Int) < 0); omega)]; rfl
theorem str_cons {c : Nat} {l : List Nat} : ((⟨#[c]⟩ : Str) ++ ⟨l.toArray⟩) = ⟨(c :: l).toArray⟩ := by
  show (⟨#[c] ++ l.toArray⟩ : Str) = _
  congr 1
  apply Array.ext'
  simp
section
variable {P : Program} {w : World} {K : PySem.W.Frag} {mg : Str → Option Value} {base : Heap} {a : Adr}
theorem ok_shown_number {dvs : List V} (R : RawF K mg "shown_number" s_shown_number ["number"] dvs) (T : Txt K mg a) :
    HasFn P w K mg base 1 "shown_number" ["number"] (spShownN) dvs := by
  refine R.ok sc_shown_number (fun vs H Q E h => ?_) (fun f cdv A outer s H vs Q E hr h => ?_)
  · obtain ⟨n, rfl, _⟩ := h
    rfl
  obtain ⟨n, rfl, hl, k⟩ := h
  refine ⟨_, (@pss_cons _ _ _ _ _ (@ps_set _ _ 1 _ _ _ _ sc_shown_number.nd rfl (by first | exact Or.inl rfl | exact Or.inr rfl) (pe_ix ix_str (pe_globS (by rfl) T.g_FIGURES) (pe_op op_and (pv 0) pe_int) (fun _ _ => rfl)) (by rfl) (by first | exact Or.inl rfl | exact Or.inr rfl))
      (@pss_cons _ _ _ _ _ (@ps_set _ _ 2 _ _ _ _ sc_shown_number.nd rfl (by first | exact Or.inl rfl | exact Or.inr rfl) (pe_op op_shr (pv 0) pe_int) (by rfl) (by first | exact Or.inl rfl | exact Or.inr rfl))
      (@pss_cons _ _ _ _ _ (ps_while own_def (pt_cmpR op_gt (pv 2) pe_int (nomark _)) (@pss_cons _ _ _ _ _ (@ps_set _ _ 1 _ _ _ _ sc_shown_number.nd rfl (by first | exact Or.inl rfl | exact Or.inr rfl) (pe_op op_add_str (pe_ix ix_str (pe_globS (by rfl) T.g_FIGURES) (pe_op op_and (pv 2) pe_int) (fun _ _ => rfl)) (pv 1)) (by rfl) (by first | exact Or.inl rfl | exact Or.inr rfl))
      (@pss_one _ _ _ (@ps_set _ _ 2 _ _ _ _ sc_shown_number.nd rfl (by first | exact Or.inl rfl | exact Or.inr rfl) (pe_op op_shr (pv 2) pe_int) (by rfl) (by first | exact Or.inl rfl | exact Or.inr rfl)))))
      (@pss_one _ _ _ (@ps_ret _ _ _ _ (pv 1)))))), ?_⟩
  have f15 : ∀ d : Nat, atI (Str.ofString "0123456789abcdef").cps.toList (Builtin.bitAnd (d : Int) 15) = some (figc (d % 16)) := fun d => by rw [and15]; exact fig_at (Nat.mod_lt _ (by decide))
  have f16 := f15 n
  have fl : (Str.ofString "0123456789abcdef").length ≤ sizeLine := by decide +kernel
  walk_at "go"
  have d16 : ∀ d : Nat, (d : Int) / 2 ^ (4 : Int).toNat = ((d / 16 : Nat) : Int) := fun d => by
    rw [show (2 : Int) ^ (4 : Int).toNat = 16 from rfl]; omega
  refine ⟨fun m σ H' => ∃ (r : Nat) (tl : List Nat), m = r ∧ H' = H ∧ σ = [some (.int n), some (.str ⟨tl.toArray⟩), some (.int r)] ∧ hexS n = hex0 r ++ tl, ⟨n / 16, n / 16, [figc (n % 16)], rfl, rfl, by rw [← d16]; rfl, hexS_0 n⟩, ?_⟩
  rintro m σ H2 ⟨r, tl, rfl, rfl, rfl, e⟩
  have f16 := f15 m
  walk_at "go"
  refine iteD (fun z => ?_) (fun z => ?_)
  · refine ⟨fun σ' H' => Bx (∃ (r : Nat) (tl : List Nat), r < m ∧ H' = H2 ∧ σ' = [some (.int n), some (.str ⟨tl.toArray⟩), some (.int r)] ∧ hexS n = hex0 r ++ tl), fun σ' H' ⟨r, tl, q1, q2, q3, q4⟩ => ⟨r, q1, r, tl, rfl, q2, q3, q4⟩, ?_⟩
    have el : (⟨#[figc (m % 16)]⟩ : Str).length + (⟨tl.toArray⟩ : Str).length ≤ sizeLine := by
      rw [e, List.length_append] at hl
      rw [sizeLine_eq]
      show 1 + tl.toArray.size ≤ _
      rw [List.size_toArray]
      omega
    walk_at "go"
    refine ⟨m / 16, figc (m % 16) :: tl, by omega, rfl, ?_, ?_⟩
    · rw [← d16]
      show [some (V.int n), some (.str ((⟨#[figc (m % 16)]⟩ : Str) ++ ⟨tl.toArray⟩)), _] = _
      rw [show ((⟨#[figc (m % 16)]⟩ : Str) ++ ⟨tl.toArray⟩) = ⟨(figc (m % 16) :: tl).toArray⟩ from str_cons]
    · rw [e, hex0_step (by omega)]; simp
  · walk_at "go"
    have m0 : m = 0 := by omega
    rw [m0] at e
    rw [e] at k
    exact k
theorem ok__law_whole {dvs : List V} (R : RawF K mg "_law_whole" s__law_whole ["_law_found"] dvs) (T : Txt K mg a) :
    HasFn P w K mg base 1 "_law_whole" ["_law_found"] (spWhole) dvs := by
  refine R.ok sc__law_whole (fun vs H Q E h => ?_) (fun f cdv A outer s H vs Q E hr h => ?_)
  · obtain ⟨i, rfl, _⟩ := h
    rfl
  obtain ⟨i, rfl, q⟩ := h
  refine ⟨_, (@pss_one _ _ _ (@ps_ret _ _ _ _ (pe_and (pe_callB call_isinst (by rfl) T.b_isinstance PyProof.Rows.Boot.«isinstance» (@pa_cn _ _ _ _ _ (pv 0) (@pa_cn _ _ _ _ _ (pe_bltn (v := .ty "int") (by rfl) T.b_int PyProof.Rows.Boot.«int» rfl) pa_nil rfl) rfl)) (pe_one (pe_not (pe_callB call_isinst (by rfl) T.b_isinstance PyProof.Rows.Boot.«isinstance» (@pa_cn _ _ _ _ _ (pv 0) (@pa_cn _ _ _ _ _ (pe_bltn (v := .ty "bool") (by rfl) T.b_bool PyProof.Rows.Boot.«bool» rfl) pa_nil rfl) rfl))))))), ?_⟩
  exact ⟨_, rfl, .int i, .ty "int", .type "int", true, rfl, rfl, .of (.int i), kit_self K _, true, rfl, iteT ⟨_, rfl, .int i, .ty "bool", .type "int", false, rfl, rfl, .of (.int i), kit_ib K, false, rfl, q⟩⟩
theorem ok__law_text_of {dvs : List V} (R : RawF K mg "_law_text_of" s__law_text_of ["_law_number_here"] dvs) (T : Txt K mg a) :
    HasFn P w K mg base 1 "_law_text_of" ["_law_number_here"] (spTextOf) dvs := by
  refine R.ok sc__law_text_of (fun vs H Q E h => ?_) (fun f cdv A outer s H vs Q E hr h => ?_)
  · obtain ⟨n, rfl, _⟩ := h
    rfl
  obtain ⟨n, rfl, hl, k⟩ := h
  refine ⟨_, (@pss_cons _ _ _ _ _ (@ps_set _ _ 1 _ _ _ _ sc__law_text_of.nd rfl (by first | exact Or.inl rfl | exact Or.inr rfl) pe_str (by rfl) (by first | exact Or.inl rfl | exact Or.inr rfl))
      (@pss_cons _ _ _ _ _ (@ps_set _ _ 2 _ _ _ _ sc__law_text_of.nd rfl (by first | exact Or.inl rfl | exact Or.inr rfl) pe_str (by rfl) (by first | exact Or.inl rfl | exact Or.inr rfl))
      (@pss_cons _ _ _ _ _ (ps_while own_def (pt_cmpR op_gt (pv 0) pe_int (nomark _)) (@pss_cons _ _ _ _ _ (ps_asg (pe_callB call_divmod (by rfl) T.b_divmod PyProof.Rows.Boot.«divmod» (@pa_cn _ _ _ _ _ (pv 0) (@pa_cn _ _ _ _ _ pe_int pa_nil rfl) rfl)) (pg_tup (n := 2) rfl (pgs_cons (pg_name (i := 0) sc__law_text_of.nd rfl (by first | exact Or.inl rfl | exact Or.inr rfl)) (pgs_cons (pg_name (i := 3) sc__law_text_of.nd rfl (by first | exact Or.inl rfl | exact Or.inr rfl)) pgs_nil))))
      (@pss_one _ _ _ (@ps_set _ _ 2 _ _ _ _ sc__law_text_of.nd rfl (by first | exact Or.inl rfl | exact Or.inr rfl) (pe_op op_add_str (pe_ix ix_str (pv 1) (pv 3) (fun _ _ => rfl)) (pv 2)) (by rfl) (by first | exact Or.inl rfl | exact Or.inr rfl)))))
      (@pss_one _ _ _ (@ps_ret _ _ _ _ (pe_op op_add_str (pe_ix ix_str (pv 1) (pv 0) (fun _ _ => rfl)) (pv 2))))))), ?_⟩
  have fl : (Str.ofString "0123456789abcdef").length ≤ sizeLine := by decide +kernel
  refine ⟨fun m σ H' => ∃ (r : Nat) (tl : List Nat) (v3 : Option V), m = r ∧ Same H H' ∧ σ = [some (.int r), some (.str (Str.ofString "0123456789abcdef")), some (.str ⟨tl.toArray⟩), v3] ∧ hexS n = hexS r ++ tl, ⟨n, n, [], none, rfl, .refl _, rfl, by rw [List.append_nil]⟩, ?_⟩
  rintro m σ H2 ⟨r, tl, v3, rfl, s2, rfl, e⟩
  have el : ∀ c : Nat, (⟨#[c]⟩ : Str).length + (⟨tl.toArray⟩ : Str).length ≤ sizeLine := fun c => by
    rw [e, List.length_append] at hl
    rw [sizeLine_eq]
    show 1 + tl.toArray.size ≤ _
    rw [List.size_toArray]
    omega
  walk_at "go"
  refine iteD (fun z => ?_) (fun z => ?_)
  · refine ⟨fun σ' H' => Bx (∃ (r : Nat) (tl : List Nat) (v3 : Option V), r < m ∧ Same H H' ∧ σ' = [some (.int r), some (.str (Str.ofString "0123456789abcdef")), some (.str ⟨tl.toArray⟩), v3] ∧ hexS n = hexS r ++ tl), fun σ' H' ⟨r, tl, v3, q1, q2, q3, q4⟩ => ⟨r, q1, r, tl, v3, rfl, q2, q3, q4⟩, ?_⟩
    have cd : CDiv (m : Int) 16 := ⟨by decide, by decide⟩
    walk_at "go"
    intro p hp
    have d1 : (m : Int) / 16 = ((m / 16 : Nat) : Int) := by omega
    have d2 : (m : Int) % 16 = ((m % 16 : Nat) : Int) := by omega
    rw [d1, d2]
    have s3 : Same H2 (upd H2 p (.tup [.int ((m / 16 : Nat) : Int), .int ((m % 16 : Nat) : Int)])) := same_upd hp
    have e3 : upd H2 p (.tup [.int ((m / 16 : Nat) : Int), .int ((m % 16 : Nat) : Int)]) p = some (.tup [.int ((m / 16 : Nat) : Int), .int ((m % 16 : Nat) : Int)]) := upd_same
    generalize upd H2 p (.tup [.int ((m / 16 : Nat) : Int), .int ((m % 16 : Nat) : Int)]) = H3 at s3 e3
    have fa : atI (Str.ofString "0123456789abcdef").cps.toList ((m % 16 : Nat) : Int) = some (figc (m % 16)) := fig_at (Nat.mod_lt _ (by decide))
    have el' := el (figc (m % 16))
    walk_at "go"
    refine ⟨m / 16, figc (m % 16) :: tl, some (.int ((m % 16 : Nat) : Int)), by omega, s2.trans s3, ?_, ?_⟩
    · show [some (V.int ((m / 16 : Nat) : Int)), some (.str (Str.ofString "0123456789abcdef")), some (.str ((⟨#[figc (m % 16)]⟩ : Str) ++ ⟨tl.toArray⟩)), some (.int ((m % 16 : Nat) : Int))] = _
      rw [str_cons]
    · rw [e, hexS_ge (by omega)]; simp
  · have fa : atI (Str.ofString "0123456789abcdef").cps.toList (m : Int) = some (figc m) := fig_at (by omega)
    have el' := el (figc m)
    walk_at "go"
    rw [hexS_lt (n := m) (by omega)] at e
    rw [e] at k
    show Q (.str (⟨#[figc m]⟩ ++ ⟨tl.toArray⟩)) H2
    rw [str_cons]
    exact k _ s2
theorem ok_read_number {dvs : List V} (R : RawF K mg "read_number" s_read_number ["text"] dvs) (T : Txt K mg a) :
    HasFn P w K mg base 1 "read_number" ["text"] (spReadN a) dvs := by
  refine R.ok sc_read_number (fun vs H Q E h => ?_) (fun f cdv A outer s H vs Q E hr h => ?_)
  · obtain ⟨x, rfl, _⟩ := h
    rfl
  obtain ⟨x, rfl, hl, k1, k2⟩ := h
  let R2 : {t : TS // PSs (cxOf (CXE P w) P w K mg base n_read_number "read_number" (defScope s_read_number) f cdv A outer s H E) ((defBody s_read_number).drop 2) t} := ⟨_, (@pss_cons _ _ _ _ _ (@ps_set _ _ 1 _ _ _ _ sc_read_number.nd rfl (by first | exact Or.inl rfl | exact Or.inr rfl) pe_int (by rfl) (by first | exact Or.inl rfl | exact Or.inr rfl))
      (@pss_cons _ _ _ _ _ (ps_for own_def rfl (pi_str (pv 0)) (pg_name (i := 2) sc_read_number.nd rfl (by first | exact Or.inl rfl | exact Or.inr rfl))
      (@pss_cons _ _ _ _ _ (@ps_set _ _ 3 _ _ _ _ sc_read_number.nd rfl (by first | exact Or.inl rfl | exact Or.inr rfl) (pe_bm PySem.F.plainAttrs_str PySem.F.slot_str_find PySem.F.type_str_find mt_find (pe_globS (by rfl) T.g_FIGURES) (@pa_cn _ _ _ _ _ (pv 2) pa_nil rfl)) (by rfl) (by first | exact Or.inl rfl | exact Or.inr rfl))
      (@pss_cons _ _ _ _ _ (ps_if (pt_cmpR op_lt (pv 3) pe_int (nomark _)) (@pss_one _ _ _ (ps_raise T.x_NoText rfl (by rfl) T.m_NoText pass_def (@pa_cn _ _ _ _ _ pe_str pa_nil rfl))) pss_nil)
      (@pss_one _ _ _ (@ps_set _ _ 1 _ _ _ _ sc_read_number.nd rfl (by first | exact Or.inl rfl | exact Or.inr rfl) (pe_op op_add (pe_op op_mul (pv 1) pe_int) (pv 3)) (by rfl) (by first | exact Or.inl rfl | exact Or.inr rfl))))))
      (@pss_one _ _ _ (@ps_ret _ _ _ _ (pv 1)))))⟩
  refine ⟨_, (@pss_cons _ _ _ _ _ (ps_if (pt_not (pt_chain op_le op_le pe_int (pe_callB call_len_str (by rfl) T.b_len PySem.boot_len (@pa_cn _ _ _ _ _ (pv 0) pa_nil rfl)) (pe_globI (by rfl) T.g_MOST_FIGURES))) (@pss_one _ _ _ (ps_raise T.x_NoText rfl (by rfl) T.m_NoText pass_def (@pa_cn _ _ _ _ _ pe_str pa_nil rfl))) pss_nil)
      (@pss_cons _ _ _ _ _ (ps_if (PW.pt (pw_and (pt_cmpR op_eq (pe_ix ix_str (pv 0) pe_int (fun _ _ => rfl)) pe_str (nomark _)) (pw_and1 (pt_cmpR op_ne (pv 0) pe_str (nomark _))))) (@pss_one _ _ _ (ps_raise T.x_NoText rfl (by rfl) T.m_NoText pass_def (@pa_cn _ _ _ _ _ pe_str pa_nil rfl))) pss_nil)
      R2.2)), ?_⟩
  have xl : x.length ≤ sizeLine := by rw [sizeLine_eq]; omega
  have tail : ∀ (D : Ends) (v1 v2 v3 : Option V), readV x = numF 0 x.cps.toList → (∀ i, readV x = some i → D.rt (.int i) H) → R2.1 D [some (.str x), v1, v2, v3] H := fun D v1 v2 v3 hv kk => by
    walk_at "go"
    refine for_str (x := x) (fun i σ H' => Bx (∃ (acc : Int) (v2 v3 : Option V), σ = [some (.str x), some (.int acc), v2, v3] ∧ H' = H ∧ numF 0 x.cps.toList = numF acc (x.cps.toList.drop i))) ⟨0, _, _, rfl, rfl, rfl⟩ ?_ ?_
    · rintro i c σ H' hc ⟨acc, v2, v3, rfl, rfl, e⟩
      rw [numF_step hc] at e
      have cm : CMul acc 16 := .inr ⟨by decide, by decide⟩
      walk_at "go"
      by_cases z : Txt.find figs ⟨#[c]⟩ < 0
      · rw [if_pos z] at e
        refine iteD (fun _ => ?_) (fun w => absurd z w)
        walk_at "go"
        exact k2 (hv.trans e)
      · rw [if_neg z] at e
        refine iteD (fun w => absurd w z) (fun _ => ?_)
        walk_at "go"
        exact ⟨_, _, _, rfl, rfl, e⟩
    · rintro σ H' ⟨acc, v2, v3, rfl, rfl, e⟩
      walk_at "go"
      exact kk _ (hv.trans (e.trans (by rw [List.drop_of_length_le (by simp)]; rfl)))
  walk_at "go"
  by_cases z : 1 ≤ (x.length : Int)
  · rw [decide_eq_true z]
    walk_at "go"
    by_cases z2 : (x.length : Int) ≤ 20
    · rw [decide_eq_true z2]
      obtain ⟨c, h0⟩ := first_at (x := x) (by omega)
      have hc : atI x.cps.toList 0 = some c := atI_nat h0
      walk_at "go"
      refine iteD (fun w => ?_) (fun w => ?_)
      · have c48 : c = 48 := one_48 w
        subst c48
        walk_at "go"
        refine iteN (fun w2 => ?_) (fun w2 => ?_)
        · walk_at "go"
          exact k2 (readV_zero h0 fun z => w2 (by rw [z, str_0]))
        · repeat (first | exact tail _ _ _ _ (readV_ok (by omega) (by omega) fun z => z.2 (by rw [← str_0]; cases w2; rfl)) k1 | (apply And.intro; (walk_at "cl")) | walk_at "ex")
      · repeat (first | exact tail _ _ _ _ (readV_ok (by omega) (by omega) fun z => w (by rw [h0] at z; cases z.1; rw [str_0])) k1 | (apply And.intro; (walk_at "cl")) | walk_at "ex")
    · rw [decide_eq_false z2]
      walk_at "go"
      exact k2 (readV_len (by omega))
  · rw [decide_eq_false z]
    walk_at "go"
    exact k2 (readV_len (by omega))
theorem ok__law_value {dvs : List V} (R : RawF K mg "_law_value" s__law_value ["_law_text_here"] dvs) (T : Txt K mg a) :
    HasFn P w K mg base 1 "_law_value" ["_law_text_here"] (spValue51) dvs := by
  refine R.ok sc__law_value (fun vs H Q E h => ?_) (fun f cdv A outer s H vs Q E hr h => ?_)
  · obtain ⟨x, rfl, _⟩ := h
    rfl
  obtain ⟨x, rfl, hl, k⟩ := h
  let R2 : {t : TS // PSs (cxOf (CXE P w) P w K mg base n__law_value "_law_value" (defScope s__law_value) f cdv A outer s H E) ((defBody s__law_value).drop 2) t} := ⟨_, (@pss_cons _ _ _ _ _ (@ps_set _ _ 2 _ _ _ _ sc__law_value.nd rfl (by first | exact Or.inl rfl | exact Or.inr rfl) pe_int (by rfl) (by first | exact Or.inl rfl | exact Or.inr rfl))
      (@pss_cons _ _ _ _ _ (ps_for own_def rfl (pi_str (pv 0)) (pg_name (i := 3) sc__law_value.nd rfl (by first | exact Or.inl rfl | exact Or.inr rfl))
      (@pss_cons _ _ _ _ _ (ps_if (pt_cmpR op_notIn_str (pv 3) (pv 1) (by with_unfolding_all rfl)) (@pss_one _ _ _ (@ps_ret _ _ _ _ pe_non)) pss_nil)
      (@pss_one _ _ _ (@ps_set _ _ 2 _ _ _ _ sc__law_value.nd rfl (by first | exact Or.inl rfl | exact Or.inr rfl) (pe_op op_add (pe_op op_mul pe_int (pv 2)) (pe_bm PySem.F.plainAttrs_str PySem.F.slot_str_find PySem.F.type_str_find mt_find (pv 1) (@pa_cn _ _ _ _ _ (pv 3) pa_nil rfl))) (by rfl) (by first | exact Or.inl rfl | exact Or.inr rfl)))))
      (@pss_one _ _ _ (@ps_ret _ _ _ _ (pv 2)))))⟩
  refine ⟨_, (@pss_cons _ _ _ _ _ (@ps_set _ _ 1 _ _ _ _ sc__law_value.nd rfl (by first | exact Or.inl rfl | exact Or.inr rfl) pe_str (by rfl) (by first | exact Or.inl rfl | exact Or.inr rfl))
      (@pss_cons _ _ _ _ _ (ps_if (PW.pt (pw_or (pt_cmpR op_eq (pv 0) pe_str (nomark _)) (pw_or (pt_cmpR op_gt (pe_callB call_len_str (by rfl) T.b_len PySem.boot_len (@pa_cn _ _ _ _ _ (pv 0) pa_nil rfl)) pe_int (nomark _)) (pw_or1 (PW.pt (pw_and (pt_cmpR op_eq (pe_ix ix_str (pv 0) pe_int (fun _ _ => rfl)) pe_str (nomark _)) (pw_and1 (pt_cmpR op_ne (pv 0) pe_str (nomark _))))))))) (@pss_one _ _ _ (@ps_ret _ _ _ _ pe_non)) pss_nil)
      R2.2)), ?_⟩
  have xl : x.length ≤ sizeLine := by rw [sizeLine_eq]; omega
  have tail : ∀ (D : Ends) (v2 v3 : Option V), readV x = numF 0 x.cps.toList → D.rt ((readV x).elim .non V.int) H → R2.1 D [some (.str x), some (.str (Str.ofString "0123456789abcdef")), v2, v3] H := fun D v2 v3 hv kk => by
    walk_at "go"
    refine for_str (x := x) (fun i σ H' => Bx (∃ (acc : Int) (v3 : Option V), σ = [some (.str x), some (.str (Str.ofString "0123456789abcdef")), some (.int acc), v3] ∧ H' = H ∧ numF 0 x.cps.toList = numF acc (x.cps.toList.drop i))) ⟨0, _, rfl, rfl, rfl⟩ ?_ ?_
    · rintro i c σ H' hc ⟨acc, v3, rfl, rfl, e⟩
      rw [numF_step hc] at e
      have cm : CMul 16 acc := .inl ⟨by decide, by decide⟩
      walk_at "go"
      have oc := occ_dec c
      unfold figs at oc
      rw [oc]
      by_cases z : Txt.find figs ⟨#[c]⟩ < 0
      · rw [if_pos z] at e
        refine iteD (fun _ => ?_) (fun w => absurd z w)
        walk_at "go"
        rw [hv, e] at kk
        exact kk
      · rw [if_neg z] at e
        refine iteD (fun w => absurd w z) (fun _ => ?_)
        walk_at "go"
        exact ⟨_, _, rfl, rfl, by rw [e, Int.mul_comm acc 16]; rfl⟩
    · rintro σ H' ⟨acc, v3, rfl, rfl, e⟩
      walk_at "go"
      rw [hv, e, List.drop_of_length_le (by simp)] at kk
      exact kk
  walk_at "go"
  by_cases z : x = Str.ofString ""
  · rw [decide_eq_true (show V.str x = V.str (Str.ofString "") by rw [z])]
    walk_at "go"
    subst z
    exact k
  · rw [decide_eq_false (show ¬ V.str x = V.str (Str.ofString "") from fun w => z (by cases w; rfl))]
    have l1 := str_ne z
    obtain ⟨c, h0⟩ := first_at (x := x) (by omega)
    have hc : atI x.cps.toList 0 = some c := atI_nat h0
    walk_at "go"
    by_cases z2 : 20 < (x.length : Int)
    · rw [decide_eq_true z2]
      walk_at "go"
      rw [readV_len (by omega)] at k
      exact k
    · rw [decide_eq_false z2]
      walk_at "go"
      by_cases w : V.str ⟨#[c]⟩ = V.str (Str.ofString "0")
      · rw [decide_eq_true w]
        have c48 : c = 48 := one_48 w
        subst c48
        walk_at "go"
        by_cases w2 : V.str x = V.str (Str.ofString "0")
        · rw [decide_eq_true w2]
          repeat (first | exact tail _ _ _ (readV_ok (by omega) (by omega) fun z => z.2 (by rw [← str_0]; cases w2; rfl)) k | (apply And.intro; (walk_at "cl")) | walk_at "ex")
        · rw [decide_eq_false w2]
          walk_at "go"
          rw [readV_zero h0 fun z => w2 (by rw [z, str_0])] at k
          exact k
      · rw [decide_eq_false w]
        repeat (first | exact tail _ _ _ (readV_ok (by omega) (by omega) fun z => w (by rw [h0] at z; cases z.1; rw [str_0])) k | (apply And.intro; (walk_at "cl")) | walk_at "ex")
end
end K51

set_option maxHeartbeats 4000000
namespace K51
open PySem L2
def spText51 : Sp := fun vs H Q _ => ∃ c : Int, vs = [.int c] ∧ ∀ (x : Str) (H' : Hp), x.length ≤ 100 → Same H H' → Q (.str x) H'
def spNumber51 : Sp := fun vs H Q _ => ∃ c : Int, vs = [.int c] ∧ ∀ n : Nat, n < 16 ^ 60 → Q (.int n) H
def spRead51 (a : Adr) : Sp := fun vs H Q _ => ∃ x : Str, vs = [.str x] ∧ x.length ≤ 1000 ∧ (∀ i, readV x = some i → ∀ T H', H' T = some (.tup [.int i, .non]) → Same H H' → Q (.ref T) H') ∧ (readV x = none → ∀ T e H', H' T = some (.tup [.non, .ref e]) → H' e = some (exO e (.ref a.c_NoText) none) → Same H H' → Q (.ref T) H')
def spReadSo51 : Sp := fun vs H Q _ => ∃ (x : Str) (v : V), vs = [.str x, v] ∧ v = (readV x).elim .non V.int ∧ x.length ≤ 1000 ∧ ∀ H', Same H H' → Q (.bl true) H'
theorem sign_at {w : Str} {n : Int} (h0 : 0 ≤ n) (h1 : n < w.length) : ∃ c : Nat, atI w.cps.toList n = some c := by
  have e : n = ((n.toNat : Nat) : Int) := by omega
  have hk : n.toNat < w.cps.toList.length := by
    have : w.cps.toList.length = w.length := by simp [Str.length]
    omega
  refine ⟨w.cps.toList[n.toNat], ?_⟩
  have q := atI_nat (List.getElem?_eq_getElem hk)
  rw [← e] at q
  exact q
def lett (c : Int) (i : Nat) : Str := ⟨#[(atI figs.cps.toList (drawn (c + 31 * (0 + (i : Int))) 40692 99929 16)).getD 0]⟩
theorem join_len (ys : List Str) (h : ∀ y ∈ ys, y.length = 1) : (Txt.join "" ys).length ≤ ys.length := by
  have q := size_glued "" ys
  have e0 : ("" : Str).length = 0 := by decide +kernel
  have s : (ys.map fun x => x.length).sum = ys.length := by
    clear q
    induction ys with
    | nil => rfl
    | cons y ys ih =>
      rw [List.map_cons, List.sum_cons, h y List.mem_cons_self, ih fun z hz => h z (List.mem_cons_of_mem _ hz), List.length_cons]
      omega
  rw [s, e0, Nat.mul_zero, Nat.add_zero] at q
  exact Nat.le_of_eq q
theorem n51 (c : Int) : (0 ≤ (2 : Int) ^ (64 : Int).toNat * 65536 + c % 10 ^ (60 : Int).toNat ∧ (2 : Int) ^ (64 : Int).toNat * 65536 + c % 10 ^ (60 : Int).toNat < 16 ^ 60) ∧ (0 ≤ c * 9000000000000000041 % (2 ^ (64 : Int).toNat * 65536) ∧ c * 9000000000000000041 % (2 ^ (64 : Int).toNat * 65536) < 16 ^ 20) := by
  rw [show (2 : Int) ^ (64 : Int).toNat * 65536 = 16 ^ 20 by decide, show (10 : Int) ^ (60 : Int).toNat = 10 ^ 60 by decide]
  generalize c * 9000000000000000041 = d
  refine ⟨⟨?_, ?_⟩, ?_, ?_⟩ <;> omega
theorem n51s (z : Int) (k : Nat) (h0 : 0 ≤ z) (h1 : z < 16 ^ 20) : 0 ≤ z / 2 ^ k ∧ z / 2 ^ k < 16 ^ 60 := by
  refine ⟨Int.ediv_nonneg h0 (Int.le_of_lt (Int.pow_pos (by decide))), Int.lt_of_le_of_lt (Int.ediv_le_self _ h0) ?_⟩
  omega
theorem n51m (c : Int) : 0 ≤ c % 300 ∧ c % 300 < 16 ^ 60 := by omega
theorem n51k {P : Int → Prop} (k : ∀ n : Nat, n < 16 ^ 60 → P n) (z : Int) (h : 0 ≤ z ∧ z < 16 ^ 60) : P z := by
  have := k z.toNat (by omega)
  rwa [Int.toNat_of_nonneg h.1] at this
theorem n51u {z : Int} (h : 0 ≤ z ∧ z < 16 ^ 20) : 0 ≤ z ∧ z < 16 ^ 60 := by omega
section
variable {P : Program} {w : World} {K : PySem.W.Frag} {mg : Str → Option Value} {base : Heap} {a : Adr}
theorem ok__law_read {dvs : List V} (R : RawF K mg "_law_read" s__law_read ["_law_text_here"] dvs) (T : Txt K mg a)
    (h_read_number : HasFn P w K mg base 1 "read_number" ["text"] (spReadN a) []) :
    HasFn P w K mg base 2 "_law_read" ["_law_text_here"] (spRead51 a) dvs := by
  refine R.ok sc__law_read (fun vs H Q E h => ?_) (fun f cdv A outer s H vs Q E hr h => ?_)
  · obtain ⟨x, rfl, _⟩ := h
    rfl
  obtain ⟨x, rfl, hl, k1, k2⟩ := h
  refine ⟨_, (@pss_cons _ _ _ _ _ (@ps_set _ _ 1 _ _ _ _ sc__law_read.nd rfl (by first | exact Or.inl rfl | exact Or.inr rfl) pe_non (by rfl) (by first | exact Or.inl rfl | exact Or.inr rfl))
      (@pss_cons _ _ _ _ _ (@ps_set _ _ 2 _ _ _ _ sc__law_read.nd rfl (by first | exact Or.inl rfl | exact Or.inr rfl) pe_non (by rfl) (by first | exact Or.inl rfl | exact Or.inr rfl))
      (@pss_cons _ _ _ _ _ (ps_try_as (i := 3) rfl rfl rfl rfl T.x_LeafError (by rfl) T.m_LeafError sc__law_read.nd rfl rfl
      (fun pn xe EX hx => (@pss_one _ _ _ (@ps_set _ _ 1 _ _ _ _ sc__law_read.nd rfl (by first | exact Or.inl rfl | exact Or.inr rfl) (pe_fn h_read_number (hr.mono (by decide)) (by rfl) hx (@pa_cn _ _ _ _ _ (pv 0) pa_nil rfl)) (by rfl) (by first | exact Or.inl rfl | exact Or.inr rfl))))
      (fun pn A' xe => (@pss_one _ _ _ (@ps_set _ _ 2 _ _ _ _ sc__law_read.nd rfl (by first | exact Or.inl rfl | exact Or.inr rfl) (pv 3) (by rfl) (by first | exact Or.inl rfl | exact Or.inr rfl)))))
      (@pss_one _ _ _ (@ps_ret _ _ _ _ (@pe_tup _ _ _ _ _ (@pa_cn _ _ _ _ _ (pv 1) (@pa_cn _ _ _ _ _ (pv 2) pa_nil rfl) rfl))))))), ?_⟩
  have s1 := T.s_T
  walk_at "go"
  refine ⟨fun i e => ?_, fun h => ?_⟩
  · walk_at "go"
    intro T hT
    exact k1 i e T _ upd_same (same_upd hT)
  · walk_at "go"
    intro e he
    walk_at "go"
    intro T hT
    exact k2 h T e _ upd_same (same_upd hT _ _ upd_same) ((same_upd he).trans (same_upd hT))
theorem ok__law_read_so {dvs : List V} (R : RawF K mg "_law_read_so" s__law_read_so ["_law_text_here", "_law_due"] dvs) (T : Txt K mg a)
    (h__law_read : HasFn P w K mg base 2 "_law_read" ["_law_text_here"] (spRead51 a) [])
    (h__law_whole : HasFn P w K mg base 1 "_law_whole" ["_law_found"] (spWhole) []) :
    HasFn P w K mg base 3 "_law_read_so" ["_law_text_here", "_law_due"] (spReadSo51) dvs := by
  refine R.ok sc__law_read_so (fun vs H Q E h => ?_) (fun f cdv A outer s H vs Q E hr h => ?_)
  · obtain ⟨x, v, rfl, _⟩ := h
    rfl
  obtain ⟨x, v, rfl, ev, hl, k⟩ := h
  refine ⟨_, (@pss_cons _ _ _ _ _ (ps_asg (pe_fn h__law_read (hr.mono (by decide)) (by rfl) pass_def (@pa_cn _ _ _ _ _ (pv 0) pa_nil rfl)) (pg_tup (n := 2) rfl (pgs_cons (pg_name (i := 2) sc__law_read_so.nd rfl (by first | exact Or.inl rfl | exact Or.inr rfl)) (pgs_cons (pg_name (i := 3) sc__law_read_so.nd rfl (by first | exact Or.inl rfl | exact Or.inr rfl)) pgs_nil))))
      (@pss_cons _ _ _ _ _ (ps_if (pt_cmpR op_isN (pv 1) pe_non (nomark _)) (@pss_cons _ _ _ _ _ (ps_if (PW.pt (pw_or (pt_cmpR op_notN (pv 2) pe_non (nomark _)) (pw_or1 (pt_not (pt_val (pe_callB call_isinst (by rfl) T.b_isinstance PyProof.Rows.Boot.«isinstance» (@pa_cn _ _ _ _ _ (pv 3) (@pa_cn _ _ _ _ _ (pe_glob (v := .ref a.c_NoText) (by rfl) T.m_NoText rfl) pa_nil rfl) rfl))))))) (@pss_one _ _ _ (@ps_ret _ _ _ _ pe_bl)) pss_nil)
      (@pss_one _ _ _ (@ps_ret _ _ _ _ (pe_and (pe_callB call_isinst (by rfl) T.b_isinstance PyProof.Rows.Boot.«isinstance» (@pa_cn _ _ _ _ _ (pv 3) (@pa_cn _ _ _ _ _ (pe_bltn (v := .ty "ValueError") (by rfl) T.b_ValueError PyProof.Rows.Boot.«ValueError» rfl) pa_nil rfl) rfl)) (pe_one (pe_not (pe_callB call_isinstT (by rfl) T.b_isinstance PyProof.Rows.Boot.«isinstance» (@pa_cn _ _ _ _ _ (pv 3) (@pa_cn _ _ _ _ _ (@pe_tup _ _ _ _ _ (@pa_cn _ _ _ _ _ (pe_glob (v := .ref a.c_NoName) (by rfl) T.m_NoName rfl) (@pa_cn _ _ _ _ _ (pe_glob (v := .ref a.c_NoNumber) (by rfl) T.m_NoNumber rfl) (@pa_cn _ _ _ _ _ (pe_glob (v := .ref a.c_NoRow) (by rfl) T.m_NoRow rfl) (@pa_cn _ _ _ _ _ (pe_glob (v := .ref a.c_NoWord) (by rfl) T.m_NoWord rfl) pa_nil rfl) rfl) rfl) rfl)) pa_nil rfl) rfl)))))))) pss_nil)
      (@pss_one _ _ _ (@ps_ret _ _ _ _ (pe_and (pe_cmpR op_isN (pv 3) pe_non (nomark _)) (pe_and (pe_fn h__law_whole (hr.mono (by decide)) (by rfl) pass_def (@pa_cn _ _ _ _ _ (pv 2) pa_nil rfl)) (pe_one (pe_cmpR op_eq (pv 2) (pv 1) (nomark _))))))))), ?_⟩
  subst ev
  have k1 := T.k_TT; have k2 := T.k_TV; have k3 := T.k_TA; have T' := T
  walk_at "go"
  refine ⟨fun i e T H1 hT s1 => ?_, fun h T e H1 hT he s1 => ?_⟩
  · rw [e]
    walk_at "go"
    rw [decide_eq_true (show V.int i = (some i).elim V.non V.int from rfl)]
    exact k _ s1
  · rw [h]
    have ty : TyE K H1 (.ref e) (.ref a.c_NoText) := .exc he T'.i_NoText T'.isk
    walk_at "go"
    intro t2 ht2
    have s2 : Same H1 (upd H1 t2 (.tup [V.ref a.c_NoName, V.ref a.c_NoNumber, V.ref a.c_NoRow, V.ref a.c_NoWord])) := same_upd ht2
    have e2 : upd H1 t2 (.tup [V.ref a.c_NoName, V.ref a.c_NoNumber, V.ref a.c_NoRow, V.ref a.c_NoWord]) t2 = some (.tup [V.ref a.c_NoName, V.ref a.c_NoNumber, V.ref a.c_NoRow, V.ref a.c_NoWord]) := upd_same
    have ty2 : TyE K (upd H1 t2 (.tup [V.ref a.c_NoName, V.ref a.c_NoNumber, V.ref a.c_NoRow, V.ref a.c_NoWord])) (.ref e) (.ref a.c_NoText) := .exc (s2 _ _ he) T'.i_NoText T'.isk
    generalize upd H1 t2 (.tup [V.ref a.c_NoName, V.ref a.c_NoNumber, V.ref a.c_NoRow, V.ref a.c_NoWord]) = H2 at s2 e2 ty2
    walk_at "go"
    exact k _ (s1.trans s2)
theorem ok__law_number {dvs : List V} (R : RawF K mg "_law_number" s__law_number ["_law_cell"] dvs) (T : Txt K mg a)
    (h__law_drawn : HasFn P w K mg base 1 "_law_drawn" ["_law_cell", "_law_by", "_law_prime", "_law_many"] (spDrawn) []) :
    HasFn P w K mg base 2 "_law_number" ["_law_cell"] (spNumber51) dvs := by
  refine R.ok sc__law_number (fun vs H Q E h => ?_) (fun f cdv A outer s H vs Q E hr h => ?_)
  · obtain ⟨c, rfl, _⟩ := h
    rfl
  obtain ⟨c, rfl, k⟩ := h
  refine ⟨_, (@pss_cons _ _ _ _ _ (@ps_set _ _ 1 _ _ _ _ sc__law_number.nd rfl (by first | exact Or.inl rfl | exact Or.inr rfl) (pe_fn h__law_drawn (hr.mono (by decide)) (by rfl) pass_def (@pa_cn _ _ _ _ _ (pv 0) (@pa_cn _ _ _ _ _ pe_int (@pa_cn _ _ _ _ _ pe_int (@pa_cn _ _ _ _ _ pe_int pa_nil rfl) rfl) rfl) rfl)) (by rfl) (by first | exact Or.inl rfl | exact Or.inr rfl))
      (@pss_cons _ _ _ _ _ (@ps_set _ _ 2 _ _ _ _ sc__law_number.nd rfl (by first | exact Or.inl rfl | exact Or.inr rfl) (pe_op op_mod (pe_op op_mul (pv 0) pe_int) (pe_op op_mul (pe_op op_pow pe_int pe_int) pe_int)) (by rfl) (by first | exact Or.inl rfl | exact Or.inr rfl))
      (@pss_cons _ _ _ _ _ (ps_if (pt_cmpR op_eq (pv 1) pe_int (nomark _)) (@pss_one _ _ _ (@ps_ret _ _ _ _ (pe_op op_add (pe_op op_mul (pe_op op_pow pe_int pe_int) pe_int) (pe_op op_mod (pv 0) (pe_op op_pow pe_int pe_int))))) pss_nil)
      (@pss_cons _ _ _ _ _ (ps_if (pt_cmpR op_eq (pv 1) pe_int (nomark _)) (@pss_one _ _ _ (@ps_ret _ _ _ _ (pe_op op_mod (pv 0) pe_int))) pss_nil)
      (@pss_cons _ _ _ _ _ (ps_if (pt_cmpR op_eq (pv 1) pe_int (nomark _)) (@pss_one _ _ _ (@ps_ret _ _ _ _ (pe_op op_shr (pv 2) (pe_op op_mul pe_int (pe_fn h__law_drawn (hr.mono (by decide)) (by rfl) pass_def (@pa_cn _ _ _ _ _ (pv 0) (@pa_cn _ _ _ _ _ pe_int (@pa_cn _ _ _ _ _ pe_int (@pa_cn _ _ _ _ _ pe_int pa_nil rfl) rfl) rfl) rfl)))))) pss_nil)
      (@pss_one _ _ _ (@ps_ret _ _ _ _ (pv 2)))))))), ?_⟩
  have d0 := drawn_0 c 48271 99991 (m := 4) (by decide)
  have d1 := drawn_lt c 48271 99991 (m := 4) (by decide)
  obtain ⟨b1, b2⟩ := n51 c
  have cp : CPow 2 64 := ⟨by decide, by decide, by decide⟩
  have cp2 : CPow 10 60 := ⟨by decide, by decide, by decide⟩
  have cm1 : CMul c 9000000000000000041 := .inr ⟨by decide, by decide⟩
  have cm2 : CMul ((2 : Int) ^ (64 : Int).toNat) 65536 := .inr ⟨by decide, by decide⟩
  have pp : (0 : Int) < (2 : Int) ^ (64 : Int).toNat * 65536 := by decide
  have pt : (0 : Int) < (10 : Int) ^ (60 : Int).toNat := by decide
  walk_at "go"
  refine iteI (fun z => ?_) (fun z => ?_)
  · walk_at "go"
    exact n51k (P := fun z => Q (.int z) H) k _ b1
  · walk_at "go"
    refine iteI (fun z => ?_) (fun z => ?_)
    · walk_at "go"
      exact n51k (P := fun z => Q (.int z) H) k _ (n51m c)
    · walk_at "go"
      refine iteI (fun z => ?_) (fun z => ?_)
      · have e0 := drawn_0 c 69621 99989 (m := 20) (by decide)
        have e1 := drawn_lt c 69621 99989 (m := 20) (by decide)
        have cm3 : CMul 4 (drawn c 69621 99989 20) := .inl ⟨by decide, by decide⟩
        have sh : 0 ≤ 4 * drawn c 69621 99989 20 := by omega
        walk_at "go"
        exact n51k (P := fun z => Q (.int z) H) k _ (n51s _ _ b2.1 b2.2)
      · walk_at "go"
        exact n51k (P := fun z => Q (.int z) H) k _ (n51u b2)
end
end K51

set_option maxHeartbeats 4000000
namespace K51
open PySem L2
theorem str_len_app {x y : Str} : (x ++ y).length = x.length + y.length := by
  show (x.cps ++ y.cps).size = _
  rw [Array.size_append]; rfl
theorem pick8 {l : List Str} {n : Int} (hl : l.length = 8) : ∃ y, atI (l.map V.str) (n % 8) = some (.str y) ∧ y ∈ l := by
  have h0 := Int.emod_nonneg n (show (8 : Int) ≠ 0 by decide)
  have h1 := Int.emod_lt_of_pos n (show (0 : Int) < 8 by decide)
  obtain ⟨k, ek⟩ : ∃ k : Nat, n % 8 = (k : Int) := ⟨(n % 8).toNat, by omega⟩
  have kl : k < l.length := by omega
  refine ⟨l[k], ?_, List.getElem_mem kl⟩
  rw [ek]
  exact atI_nat (by rw [List.getElem?_map, List.getElem?_eq_getElem kl]; rfl)
section
variable {P : Program} {w : World} {K : PySem.W.Frag} {mg : Str → Option Value} {base : Heap} {a : Adr}
theorem ok__law_text {dvs : List V} (R : RawF K mg "_law_text" s__law_text ["_law_cell"] dvs) (T : Txt K mg a)
    (h__law_drawn : HasFn P w K mg base 1 "_law_drawn" ["_law_cell", "_law_by", "_law_prime", "_law_many"] (spDrawn) []) :
    HasFn P w K mg base 2 "_law_text" ["_law_cell"] (spText51) dvs := by
  refine R.ok sc__law_text (fun vs H Q E h => ?_) (fun f cdv A outer s H vs Q E hr h => ?_)
  · obtain ⟨c, rfl, _⟩ := h
    rfl
  obtain ⟨c, rfl, k⟩ := h
  refine ⟨_, (@pss_cons _ _ _ _ _ (@ps_set _ _ 1 _ _ _ _ sc__law_text.nd rfl (by first | exact Or.inl rfl | exact Or.inr rfl) pe_str (by rfl) (by first | exact Or.inl rfl | exact Or.inr rfl))
      (@pss_cons _ _ _ _ _ (@ps_set _ _ 2 _ _ _ _ sc__law_text.nd rfl (by first | exact Or.inl rfl | exact Or.inr rfl) pe_str (by rfl) (by first | exact Or.inl rfl | exact Or.inr rfl))
      (@pss_cons _ _ _ _ _ (@ps_set _ _ 3 _ _ _ _ sc__law_text.nd rfl (by first | exact Or.inl rfl | exact Or.inr rfl) (pe_op op_add pe_int (pe_fn h__law_drawn (hr.mono (by decide)) (by rfl) pass_def (@pa_cn _ _ _ _ _ (pv 0) (@pa_cn _ _ _ _ _ pe_int (@pa_cn _ _ _ _ _ pe_int (@pa_cn _ _ _ _ _ pe_int pa_nil rfl) rfl) rfl) rfl))) (by rfl) (by first | exact Or.inl rfl | exact Or.inr rfl))
      (@pss_cons _ _ _ _ _ (@ps_set _ _ 4 _ _ _ _ sc__law_text.nd rfl (by first | exact Or.inl rfl | exact Or.inr rfl) (pe_bm PySem.F.plainAttrs_str PySem.F.slot_str_join PySem.F.type_str_join mt_join pe_str (@pa_cn _ _ _ _ _ (pe_comp (xs := ["_law_k"]) (N' := ["_law_cell", "_law_figures", "_law_signs", "_law_size", "_law_text_here", "_law_way", "_law_at", "_law_sign"]) rfl ⟨rfl, by decide +kernel, by decide +kernel, by dsimp only [cxOf, PyProof.Rows.envOfC]; decide +kernel, by decide +kernel, by dsimp only [cxOf]; decide +kernel, rfl⟩ (pi_range1 (by rfl) T.b_range (@pa_cn _ _ _ _ _ (pv 3) pa_nil rfl)) (fun _ _ _ _ _ => (pg_name (i := 0) (by dsimp only [cxComp]; decide +kernel) rfl (by first | exact Or.inl rfl | exact Or.inr rfl))) (fun _ _ _ _ _ => pts_nil) (fun _ _ _ _ _ => (pe_ix ix_str (pv 2) (pe_fn h__law_drawn (hr.mono (by decide)) (by rfl) pass_none (@pa_cn _ _ _ _ _ (pe_op op_add (pv 1) (pe_op op_mul pe_int (pv 0))) (@pa_cn _ _ _ _ _ pe_int (@pa_cn _ _ _ _ _ pe_int (@pa_cn _ _ _ _ _ pe_int pa_nil rfl) rfl) rfl) rfl)) (fun _ _ => rfl)))) pa_nil rfl)) (by rfl) (by first | exact Or.inl rfl | exact Or.inr rfl))
      (@pss_cons _ _ _ _ _ (@ps_set _ _ 5 _ _ _ _ sc__law_text.nd rfl (by first | exact Or.inl rfl | exact Or.inr rfl) (pe_fn h__law_drawn (hr.mono (by decide)) (by rfl) pass_def (@pa_cn _ _ _ _ _ (pv 0) (@pa_cn _ _ _ _ _ pe_int (@pa_cn _ _ _ _ _ pe_int (@pa_cn _ _ _ _ _ pe_int pa_nil rfl) rfl) rfl) rfl)) (by rfl) (by first | exact Or.inl rfl | exact Or.inr rfl))
      (@pss_cons _ _ _ _ _ (@ps_set _ _ 6 _ _ _ _ sc__law_text.nd rfl (by first | exact Or.inl rfl | exact Or.inr rfl) (pe_fn h__law_drawn (hr.mono (by decide)) (by rfl) pass_def (@pa_cn _ _ _ _ _ (pv 0) (@pa_cn _ _ _ _ _ pe_int (@pa_cn _ _ _ _ _ pe_int (@pa_cn _ _ _ _ _ (pv 3) pa_nil rfl) rfl) rfl) rfl)) (by rfl) (by first | exact Or.inl rfl | exact Or.inr rfl))
      (@pss_cons _ _ _ _ _ (@ps_set _ _ 7 _ _ _ _ sc__law_text.nd rfl (by first | exact Or.inl rfl | exact Or.inr rfl) (pe_ix ix_str (pv 2) (pe_fn h__law_drawn (hr.mono (by decide)) (by rfl) pass_def (@pa_cn _ _ _ _ _ (pv 0) (@pa_cn _ _ _ _ _ pe_int (@pa_cn _ _ _ _ _ pe_int (@pa_cn _ _ _ _ _ (pe_callB call_len_str (by rfl) T.b_len PySem.boot_len (@pa_cn _ _ _ _ _ (pv 2) pa_nil rfl)) pa_nil rfl) rfl) rfl) rfl)) (fun _ _ => rfl)) (by rfl) (by first | exact Or.inl rfl | exact Or.inr rfl))
      (@pss_cons _ _ _ _ _ (ps_if (pt_cmpR op_eq (pv 5) pe_int (nomark _)) (@pss_one _ _ _ (@ps_ret _ _ _ _ (pe_op op_add_str (pe_op op_add_str (pe_slice sl_str (pv 4) po_none (po_some (pv 6))) (pv 7)) (pe_slice sl_str (pv 4) (po_some (pe_op op_add (pv 6) pe_int)) po_none)))) pss_nil)
      (@pss_cons _ _ _ _ _ (ps_if (pt_cmpR op_eq (pv 5) pe_int (nomark _)) (@pss_one _ _ _ (@ps_ret _ _ _ _ (pe_op op_add_str (pe_op op_add_str (pe_slice sl_str (pv 4) po_none (po_some (pv 6))) (pv 7)) (pe_slice sl_str (pv 4) (po_some (pv 6)) po_none)))) pss_nil)
      (@pss_cons _ _ _ _ _ (ps_if (pt_cmpR op_eq (pv 5) pe_int (nomark _)) (@pss_one _ _ _ (@ps_ret _ _ _ _ (pe_op op_add_str (pe_ix ix_list (@pe_lst _ _ _ _ (@pa_cn _ _ _ _ _ pe_str (@pa_cn _ _ _ _ _ pe_str (@pa_cn _ _ _ _ _ pe_str (@pa_cn _ _ _ _ _ pe_str (@pa_cn _ _ _ _ _ pe_str (@pa_cn _ _ _ _ _ pe_str (@pa_cn _ _ _ _ _ pe_str (@pa_cn _ _ _ _ _ pe_str pa_nil rfl) rfl) rfl) rfl) rfl) rfl) rfl) rfl)) (pe_op op_mod (pv 0) pe_int) (fun _ _ => rfl)) (pv 4)))) pss_nil)
      (@pss_cons _ _ _ _ _ (ps_if (pt_cmpR op_eq (pv 5) pe_int (nomark _)) (@pss_one _ _ _ (@ps_ret _ _ _ _ (pe_op op_add_str (pv 4) (pe_ix ix_list (@pe_lst _ _ _ _ (@pa_cn _ _ _ _ _ pe_str (@pa_cn _ _ _ _ _ pe_str (@pa_cn _ _ _ _ _ pe_str (@pa_cn _ _ _ _ _ pe_str (@pa_cn _ _ _ _ _ pe_str (@pa_cn _ _ _ _ _ pe_str (@pa_cn _ _ _ _ _ pe_str (@pa_cn _ _ _ _ _ pe_str pa_nil rfl) rfl) rfl) rfl) rfl) rfl) rfl) rfl)) (pe_op op_mod (pv 0) pe_int) (fun _ _ => rfl))))) pss_nil)
      (@pss_one _ _ _ (@ps_ret _ _ _ _ (pv 4)))))))))))))), ?_⟩
  have d0 := drawn_0 c 16807 99971 (m := 22) (by decide)
  have d1 := drawn_lt c 16807 99971 (m := 22) (by decide)
  have sl : (Str.ofString "0123456789abcdef").length = 16 := by decide +kernel
  have hS : (Str.ofString " !\"#$&'()*+,-./0123456789:;<=>?@ABCDEFGHIJKLMNOPQRSTUVWXYZ[\\]^_`abcdefghijklmnopqrstuvwxyz{|}~").length = 94 := by decide +kernel
  generalize Str.ofString " !\"#$&'()*+,-./0123456789:;<=>?@ABCDEFGHIJKLMNOPQRSTUVWXYZ[\\]^_`abcdefghijklmnopqrstuvwxyz{|}~" = signs at hS ⊢
  walk_at "go"
  intro u hu
  generalize drawn c 16807 99971 22 = sz' at d0 d1
  obtain ⟨sz, esz⟩ : ∃ sz : Nat, 1 + sz' = (sz : Int) := ⟨(1 + sz').toNat, by omega⟩
  have z1 : 1 ≤ sz := by omega
  have z22 : sz ≤ 22 := by omega
  show _
  refine comp_range hu (fun i => V.str (lett c i)) (fun _ => true) (by rw [sizeLine_eq]; omega) (fun i ys hi R r => r) (fun i ys hi _ R rr => ?_) ?_
  · have e0 := drawn_0 (c + 31 * (0 + (i : Int))) 40692 99929 (m := 16) (by decide)
    have e1 := drawn_lt (c + 31 * (0 + (i : Int))) 40692 99929 (m := 16) (by decide)
    obtain ⟨ch, ec⟩ := sign_at (w := figs) e0 (by show _ < ((Str.ofString "0123456789abcdef").length : Int); rw [sl]; exact e1)
    have el : lett c i = ⟨#[ch]⟩ := by unfold lett; rw [ec]; rfl
    rw [el] at rr
    have ll : (Str.ofString "0123456789abcdef").length ≤ sizeLine := by rw [sizeLine_eq, sl]; decide
    have ec' : atI (Str.ofString "0123456789abcdef").cps.toList (drawn (c + 31 * (0 + (i : Int))) 40692 99929 16) = some ch := ec
    have cm : CMul 31 (0 + (i : Int)) := .inl ⟨by decide, by decide⟩
    walk_at "go"
    exact rr
  · have el : ((List.range (1 + sz').toNat).filter fun _ => true).map (fun i => V.str (lett c i)) = ((List.range (1 + sz').toNat).map (lett c)).map V.str := by
      rw [List.filter_eq_self.mpr (fun _ _ => rfl), List.map_map]; rfl
    rw [el]
    have y1 : ∀ y ∈ (List.range (1 + sz').toNat).map (lett c), y.length = 1 := fun y hy => by
      rw [List.mem_map] at hy
      obtain ⟨i, _, rfl⟩ := hy
      rfl
    have yz : ((List.range (1 + sz').toNat).map (lett c)).length = sz := by rw [List.length_map, List.length_range]; omega
    generalize (List.range (1 + sz').toNat).map (lett c) = ys at y1 yz
    have jl := join_len ys y1
    have s1 : Same H (upd H u (.lst (ys.map V.str))) := same_upd hu
    have e1 : upd H u (.lst (ys.map V.str)) u = some (.lst (ys.map V.str)) := upd_same
    generalize upd H u (.lst (ys.map V.str)) = H1 at s1 e1
    have z0 : ("" : Str).length ≤ 16 := by decide +kernel
    have zs : (ys.map fun x => x.length).sum + ys.length ≤ 1048576 := by
      have : ∀ zs : List Str, (∀ y ∈ zs, y.length = 1) → (zs.map fun x => x.length).sum = zs.length := fun zs => by
        induction zs with
        | nil => intro _; rfl
        | cons z zs ih =>
          intro h
          rw [List.map_cons, List.sum_cons, h z List.mem_cons_self, ih fun w hw => h w (List.mem_cons_of_mem _ hw), List.length_cons]
          omega
      rw [this ys y1]; omega
    have jl3 : (Txt.join "" ys).length ≤ 22 := by omega
    have sp : (0 : Int) < 1 + sz' := by omega
    have sg : (0 : Int) < (signs.length : Int) := by rw [hS]; decide
    have g0 := drawn_0 c 39373 99961 sg
    have g1 := drawn_lt c 39373 99961 sg
    obtain ⟨ch, ec⟩ := sign_at (w := signs) g0 g1
    have sgl : signs.length ≤ sizeLine := by rw [sizeLine_eq, hS]; decide
    have a0 := drawn_0 c 25173 99907 sp
    have jll : (Txt.join "" ys).length ≤ sizeLine := by rw [sizeLine_eq]; omega
    have w0 := drawn_0 c 30269 99923 (m := 8) (by decide)
    have w1 := drawn_lt c 30269 99923 (m := 8) (by decide)
    have a1 := Txt.slice_le (Txt.join "" ys) none (some (drawn c 25173 99907 (1 + sz')))
    have a2 := Txt.slice_le (Txt.join "" ys) (some (drawn c 25173 99907 (1 + sz') + 1)) none
    have a3 := Txt.slice_le (Txt.join "" ys) (some (drawn c 25173 99907 (1 + sz'))) none
    have b1 : (Txt.slice (Txt.join "" ys) none (some (drawn c 25173 99907 (1 + sz')))).length + (⟨#[ch]⟩ : Str).length ≤ sizeLine := by rw [sizeLine_eq]; show _ + 1 ≤ _; omega
    have b2 : (Txt.slice (Txt.join "" ys) none (some (drawn c 25173 99907 (1 + sz'))) ++ (⟨#[ch]⟩ : Str)).length + (Txt.slice (Txt.join "" ys) (some (drawn c 25173 99907 (1 + sz') + 1)) none).length ≤ sizeLine := by rw [str_len_app, sizeLine_eq]; show _ + 1 + _ ≤ _; omega
    have b3 : (Txt.slice (Txt.join "" ys) none (some (drawn c 25173 99907 (1 + sz'))) ++ (⟨#[ch]⟩ : Str)).length + (Txt.slice (Txt.join "" ys) (some (drawn c 25173 99907 (1 + sz'))) none).length ≤ sizeLine := by rw [str_len_app, sizeLine_eq]; show _ + 1 + _ ≤ _; omega
    walk_at "go"
    refine iteI (fun z => ?_) (fun z => ?_)
    · walk_at "go"
      refine k _ _ ?_ s1
      rw [str_len_app, str_len_app]
      show _ + 1 + _ ≤ _
      omega
    · walk_at "go"
      refine iteI (fun z => ?_) (fun z => ?_)
      · walk_at "go"
        refine k _ _ ?_ s1
        rw [str_len_app, str_len_app]
        show _ + 1 + _ ≤ _
        omega
      · walk_at "go"
        refine iteI (fun z => ?_) (fun z => ?_)
        · walk_at "go"
          intro q hq
          obtain ⟨y, ey, my⟩ := pick8 (l := ["0", "-", "+", "0x", " ", "00", "_", "#"]) (n := c) rfl
          have ey : atI [V.str "0", V.str "-", V.str "+", V.str "0x", V.str " ", V.str "00", V.str "_", V.str "#"] (c % 8) = some (.str y) := ey
          have yl : y.length ≤ 2 := (show ∀ y ∈ (["0", "-", "+", "0x", " ", "00", "_", "#"] : List Str), y.length ≤ 2 by decide +kernel) y my
          have s2 : Same H1 (upd H1 q (.lst [V.str "0", V.str "-", V.str "+", V.str "0x", V.str " ", V.str "00", V.str "_", V.str "#"])) := same_upd hq
          have e2 : upd H1 q (.lst [V.str "0", V.str "-", V.str "+", V.str "0x", V.str " ", V.str "00", V.str "_", V.str "#"]) q = some (.lst [V.str "0", V.str "-", V.str "+", V.str "0x", V.str " ", V.str "00", V.str "_", V.str "#"]) := upd_same
          generalize upd H1 q (.lst [V.str "0", V.str "-", V.str "+", V.str "0x", V.str " ", V.str "00", V.str "_", V.str "#"]) = H2 at s2 e2
          have zz : y.length + (Txt.join "" ys).length ≤ sizeLine := by rw [sizeLine_eq]; omega
          walk_at "go"
          refine k _ _ ?_ (s1.trans s2)
          rw [str_len_app]; omega
        · walk_at "go"
          refine iteI (fun z => ?_) (fun z => ?_)
          · walk_at "go"
            intro q hq
            obtain ⟨y, ey, my⟩ := pick8 (l := [" ", "\n", "\t", "h", "L", "g", "_0", "."]) (n := c) rfl
            have ey : atI [V.str " ", V.str "\n", V.str "\t", V.str "h", V.str "L", V.str "g", V.str "_0", V.str "."] (c % 8) = some (.str y) := ey
            have yl : y.length ≤ 2 := (show ∀ y ∈ ([" ", "\n", "\t", "h", "L", "g", "_0", "."] : List Str), y.length ≤ 2 by decide +kernel) y my
            have s2 : Same H1 (upd H1 q (.lst [V.str " ", V.str "\n", V.str "\t", V.str "h", V.str "L", V.str "g", V.str "_0", V.str "."])) := same_upd hq
            have e2 : upd H1 q (.lst [V.str " ", V.str "\n", V.str "\t", V.str "h", V.str "L", V.str "g", V.str "_0", V.str "."]) q = some (.lst [V.str " ", V.str "\n", V.str "\t", V.str "h", V.str "L", V.str "g", V.str "_0", V.str "."]) := upd_same
            generalize upd H1 q (.lst [V.str " ", V.str "\n", V.str "\t", V.str "h", V.str "L", V.str "g", V.str "_0", V.str "."]) = H2 at s2 e2
            have zz : (Txt.join "" ys).length + y.length ≤ sizeLine := by rw [sizeLine_eq]; omega
            walk_at "go"
            refine k _ _ ?_ (s1.trans s2)
            rw [str_len_app]; omega
          · walk_at "go"
            exact k _ _ (by omega) s1
end
end K51

set_option maxHeartbeats 4000000
namespace K51
open PySem L2
def spLaw (K : PySem.W.Frag) : Sp := fun vs H Q _ => ∃ (a : Addr) (ns : List Int), vs = [.ref a] ∧ SqL K H a (ns.map V.int) ∧ ns.length ≤ 63 ∧ ∀ H', Q (.bl true) H'
theorem hex_str_len (n : Nat) : (⟨(hexS n).toArray⟩ : Str).length = (hexS n).length := by show (hexS n).toArray.size = _; simp
section
variable {P : Program} {w : World} {K : PySem.W.Frag} {mg : Str → Option Value} {base : Heap} {a : Adr}
theorem ok_law {f : Addr} {oc : Value} {od : Option Addr} {dV kV doc pm : Value} {an : Option Addr} {cdv ct : Value} {osl : Array (Option Value)} (lk : K.lookup f = some ⟨oc, od, .func (PySem.W.fnOf "law" "law" (defArgs s_law) (defBody s_law) (defScope s_law) dV kV doc pm an cdv ct), osl⟩) (hcd : PySem.W.codeIn K cdv "law" = true) (T : Txt K mg a)
    (h__law_number : HasFn P w K mg base 2 "_law_number" ["_law_cell"] (spNumber51) [])
    (h_shown_number : HasFn P w K mg base 1 "shown_number" ["number"] (spShownN) [])
    (h__law_text_of : HasFn P w K mg base 1 "_law_text_of" ["_law_number_here"] (spTextOf) [])
    (h__law_read_so : HasFn P w K mg base 3 "_law_read_so" ["_law_text_here", "_law_due"] (spReadSo51) [])
    (h__law_text : HasFn P w K mg base 2 "_law_text" ["_law_cell"] (spText51) [])
    (h__law_value : HasFn P w K mg base 1 "_law_value" ["_law_text_here"] (spValue51) []) :
    FnOk P w K mg base (CXE P w) 4 f (PySem.W.fnOf "law" "law" (defArgs s_law) (defBody s_law) (defScope s_law) dV kV doc pm an cdv ct) ["_law_script"] (spLaw K) := by
  refine fn_of lk hcd sc_law (fun vs H Q E h => ?_) (fun A outer s H vs Q E hr h => ?_)
  · obtain ⟨sc, ss, rfl, _⟩ := h
    rfl
  obtain ⟨sc, ss, rfl, hS, hlen, k⟩ := h
  refine ⟨_, (@pss_cons _ _ _ _ _ (ps_for own_def rfl (pi_list (pe_slice sl_list (pv 0) po_none (po_some pe_int))) (pg_name (i := 1) sc_law.nd rfl (by first | exact Or.inl rfl | exact Or.inr rfl))
      (@pss_cons _ _ _ _ _ (@ps_set _ _ 2 _ _ _ _ sc_law.nd rfl (by first | exact Or.inl rfl | exact Or.inr rfl) (pe_fn h__law_number (hr.mono (by decide)) (by rfl) pass_def (@pa_cn _ _ _ _ _ (pv 1) pa_nil rfl)) (by rfl) (by first | exact Or.inl rfl | exact Or.inr rfl))
      (@pss_cons _ _ _ _ _ (@ps_set _ _ 3 _ _ _ _ sc_law.nd rfl (by first | exact Or.inl rfl | exact Or.inr rfl) (pe_fn h_shown_number (hr.mono (by decide)) (by rfl) pass_def (@pa_cn _ _ _ _ _ (pv 2) pa_nil rfl)) (by rfl) (by first | exact Or.inl rfl | exact Or.inr rfl))
      (@pss_cons _ _ _ _ _ (ps_if (PW.pt (pw_or (pt_not (pt_val (pe_callB call_isinst (by rfl) T.b_isinstance PyProof.Rows.Boot.«isinstance» (@pa_cn _ _ _ _ _ (pv 3) (@pa_cn _ _ _ _ _ (pe_bltn (v := .ty "str") (by rfl) T.b_str PyProof.Rows.Boot.«str» rfl) pa_nil rfl) rfl)))) (pw_or1 (pt_cmpR op_ne (pv 3) (pe_fn h__law_text_of (hr.mono (by decide)) (by rfl) pass_def (@pa_cn _ _ _ _ _ (pv 2) pa_nil rfl)) (nomark _))))) (@pss_one _ _ _ (@ps_ret _ _ _ _ pe_bl)) pss_nil)
      (@pss_cons _ _ _ _ _ (@ps_set _ _ 4 _ _ _ _ sc_law.nd rfl (by first | exact Or.inl rfl | exact Or.inr rfl) (pv 2) (by rfl) (by first | exact Or.inl rfl | exact Or.inr rfl))
      (@pss_cons _ _ _ _ _ (ps_if (pt_cmpR op_gt (pe_callB call_len_str (by rfl) T.b_len PySem.boot_len (@pa_cn _ _ _ _ _ (pv 3) pa_nil rfl)) pe_int (nomark _)) (@pss_one _ _ _ (@ps_set _ _ 4 _ _ _ _ sc_law.nd rfl (by first | exact Or.inl rfl | exact Or.inr rfl) pe_non (by rfl) (by first | exact Or.inl rfl | exact Or.inr rfl))) pss_nil)
      (@pss_cons _ _ _ _ _ (ps_if (pt_not (pt_val (pe_fn h__law_read_so (hr.mono (by decide)) (by rfl) pass_def (@pa_cn _ _ _ _ _ (pv 3) (@pa_cn _ _ _ _ _ (pv 4) pa_nil rfl) rfl)))) (@pss_one _ _ _ (@ps_ret _ _ _ _ pe_bl)) pss_nil)
      (@pss_cons _ _ _ _ _ (@ps_set _ _ 5 _ _ _ _ sc_law.nd rfl (by first | exact Or.inl rfl | exact Or.inr rfl) (pe_fn h__law_text (hr.mono (by decide)) (by rfl) pass_def (@pa_cn _ _ _ _ _ (pv 1) pa_nil rfl)) (by rfl) (by first | exact Or.inl rfl | exact Or.inr rfl))
      (@pss_one _ _ _ (ps_if (pt_not (pt_val (pe_fn h__law_read_so (hr.mono (by decide)) (by rfl) pass_def (@pa_cn _ _ _ _ _ (pv 5) (@pa_cn _ _ _ _ _ (pe_fn h__law_value (hr.mono (by decide)) (by rfl) pass_def (@pa_cn _ _ _ _ _ (pv 5) pa_nil rfl)) pa_nil rfl) rfl)))) (@pss_one _ _ _ (@ps_ret _ _ _ _ pe_bl)) pss_nil))))))))))
      (@pss_one _ _ _ (@ps_ret _ _ _ _ (pe_and (pe_fn h__law_read_so (hr.mono (by decide)) (by rfl) pass_def (@pa_cn _ _ _ _ _ pe_str (@pa_cn _ _ _ _ _ pe_non pa_nil rfl) rfl)) (pe_and (pe_fn h__law_read_so (hr.mono (by decide)) (by rfl) pass_def (@pa_cn _ _ _ _ _ pe_str (@pa_cn _ _ _ _ _ pe_int pa_nil rfl) rfl)) (pe_one (pe_cmpR op_eq (pe_fn h_shown_number (hr.mono (by decide)) (by rfl) pass_def (@pa_cn _ _ _ _ _ pe_int pa_nil rfl)) pe_str (nomark _)))))))), ?_⟩
  obtain ⟨ms, em, lm⟩ := cut_ints ss none (some 80)
  walk_at "go"
  intro sl hsl
  rw [em]
  have s2 : Same H (upd H sl (.lst (ms.map V.int))) := same_upd hsl
  have e2 : upd H sl (.lst (ms.map V.int)) sl = some (.lst (ms.map V.int)) := upd_same
  generalize upd H sl (.lst (ms.map V.int)) = H2 at s2 e2
  walk_at "go"
  refine for_list (xs := ms.map V.int) (fun i σ H' => Bx ((∃ v1 v2 v3 v4 v5, σ = [some (.ref sc), v1, v2, v3, v4, v5]) ∧ Same H2 H')) ⟨⟨_, _, _, _, _, rfl⟩, .refl _⟩ (fun i σ H' _ z => SqL.of (z.o.2 _ _ e2)) ?_ ?_
  · rintro i v σ H3 hi ⟨⟨v1, v2, v3, v4, v5, rfl⟩, s3⟩
    obtain ⟨c, rfl, _⟩ := mem_ints hi
    walk_at "go"
    intro n hn
    have h60 := hexS_len 59 n hn
    have hl : (hexS n).length ≤ 1000 := by omega
    have hl2 : (⟨(hexS n).toArray⟩ : Str).length ≤ 1000 := by rw [hex_str_len]; exact hl
    have hl3 : (⟨(hexS n).toArray⟩ : Str).length ≤ sizeLine := by rw [sizeLine_eq]; omega
    walk_at "go"
    intro H4 s4
    walk_at "go"
    refine iteNS rfl ?_
    walk_at "go"
    have rv := readV_hex n
    refine iteD (fun z => ?_) (fun z => ?_)
    · rw [hex_str_len] at z
      rw [if_neg (by omega)] at rv
      have ev : (V.non : V) = (readV ⟨(hexS n).toArray⟩).elim .non V.int := by rw [rv]; rfl
      walk_at "go"
      intro H5 s5
      walk_at "go"
      intro x H6 lx s6
      have lx' : x.length ≤ 1000 := by omega
      walk_at "go"
      intro H7 s7
      walk_at "go"
      exact ⟨⟨_, _, _, _, _, rfl⟩, (((s3.trans s4).trans s5).trans s6).trans s7⟩
    · rw [hex_str_len] at z
      rw [if_pos (by omega)] at rv
      have ev : (V.int (n : Int)) = (readV ⟨(hexS n).toArray⟩).elim .non V.int := by rw [rv]; rfl
      walk_at "go"
      intro H5 s5
      walk_at "go"
      intro x H6 lx s6
      have lx' : x.length ≤ 1000 := by omega
      walk_at "go"
      intro H7 s7
      walk_at "go"
      exact ⟨⟨_, _, _, _, _, rfl⟩, (((s3.trans s4).trans s5).trans s6).trans s7⟩
  · rintro σ H3 ⟨⟨v1, v2, v3, v4, v5, rfl⟩, s3⟩
    have r0 : readV (Str.ofString "") = none := by decide +kernel
    have r1 : readV (Str.ofString "0") = some 0 := by decide +kernel
    have v0 : (V.non : V) = (readV (Str.ofString "")).elim .non V.int := by rw [r0]; rfl
    have v1' : (V.int 0 : V) = (readV (Str.ofString "0")).elim .non V.int := by rw [r1]; rfl
    have l0 : (Str.ofString "").length ≤ 1000 := by decide +kernel
    have l1 : (Str.ofString "0").length ≤ 1000 := by decide +kernel
    walk_at "go"
    intro H4 s4
    walk_at "go"
    intro H5 s5
    have h0 : hexS 0 = [48] := hexS_lt (by decide)
    have l2 : (hexS 0).length ≤ 1000 := by rw [h0]; decide
    walk_at "go"
    rw [h0]
    rw [decide_eq_true (show V.str ⟨[48].toArray⟩ = V.str (Str.ofString "0") by rw [str_0])]
    exact k _
end
end K51

set_option maxHeartbeats 4000000
namespace K51
open PySem L2
theorem all_mk {l : PySem.W.OpenLaw} {w : World} {K : PySem.W.Frag} {h : Heap} {mg : Str → Option Value} {fa c_LeafError c_NoNumber c_NoWord c_NoName c_NoText c_NoRow f1 f2 f3 f4 f5 f6 f7 f8 f9 f10 f11 : Addr} (X : K.In h) (G : h.Ns mainGlobals mg) (hfa : mg "law" = some (.ref fa))
    {od1 an1 : Option Addr} {sl1 : Array (Option Value)} {oc1 kV1 dc1 pm1 cd1 ct1 : Value}
    {od2 an2 : Option Addr} {sl2 : Array (Option Value)} {oc2 kV2 dc2 pm2 cd2 ct2 : Value}
    {od3 an3 : Option Addr} {sl3 : Array (Option Value)} {oc3 kV3 dc3 pm3 cd3 ct3 : Value}
    {od4 an4 : Option Addr} {sl4 : Array (Option Value)} {oc4 kV4 dc4 pm4 cd4 ct4 : Value}
    {od5 an5 : Option Addr} {sl5 : Array (Option Value)} {oc5 kV5 dc5 pm5 cd5 ct5 : Value}
    {od6 an6 : Option Addr} {sl6 : Array (Option Value)} {oc6 kV6 dc6 pm6 cd6 ct6 : Value}
    {od7 an7 : Option Addr} {sl7 : Array (Option Value)} {oc7 kV7 dc7 pm7 cd7 ct7 : Value}
    {od8 an8 : Option Addr} {sl8 : Array (Option Value)} {oc8 kV8 dc8 pm8 cd8 ct8 : Value}
    {od9 an9 : Option Addr} {sl9 : Array (Option Value)} {oc9 kV9 dc9 pm9 cd9 ct9 : Value}
    {od10 an10 : Option Addr} {sl10 : Array (Option Value)} {oc10 kV10 dc10 pm10 cd10 ct10 : Value}
    {od11 an11 : Option Addr} {sl11 : Array (Option Value)} {oc11 kV11 dc11 pm11 cd11 ct11 : Value}
    {tkc_FIGURES tkc_MOST_FIGURES : Tok}
    (a_c_LeafError : PySem.W.nsIn K mainGlobals "LeafError" = some (some (.ref c_LeafError)))
    (a_c_NoNumber : PySem.W.nsIn K mainGlobals "NoNumber" = some (some (.ref c_NoNumber)))
    (a_c_NoWord : PySem.W.nsIn K mainGlobals "NoWord" = some (some (.ref c_NoWord)))
    (a_c_NoName : PySem.W.nsIn K mainGlobals "NoName" = some (some (.ref c_NoName)))
    (a_c_NoText : PySem.W.nsIn K mainGlobals "NoText" = some (some (.ref c_NoText)))
    (a_c_NoRow : PySem.W.nsIn K mainGlobals "NoRow" = some (some (.ref c_NoRow)))
    (a1 : PySem.W.nsIn K mainGlobals "_law_drawn" = some (some (.ref f1)))
    (l1 : K.lookup f1 = some ⟨oc1, od1, .func (PySem.W.fnOf "_law_drawn" "_law_drawn" (defArgs s__law_drawn) (defBody s__law_drawn) (defScope s__law_drawn) .none kV1 dc1 pm1 an1 cd1 ct1), sl1⟩)
    (c1 : PySem.W.codeIn K cd1 "_law_drawn" = true)
    (k1 : PySem.W.keepIn K (.ref f1) = true)
    (a2 : PySem.W.nsIn K mainGlobals "shown_number" = some (some (.ref f2)))
    (l2 : K.lookup f2 = some ⟨oc2, od2, .func (PySem.W.fnOf "shown_number" "shown_number" (defArgs s_shown_number) (defBody s_shown_number) (defScope s_shown_number) .none kV2 dc2 pm2 an2 cd2 ct2), sl2⟩)
    (c2 : PySem.W.codeIn K cd2 "shown_number" = true)
    (k2 : PySem.W.keepIn K (.ref f2) = true)
    (a3 : PySem.W.nsIn K mainGlobals "_law_whole" = some (some (.ref f3)))
    (l3 : K.lookup f3 = some ⟨oc3, od3, .func (PySem.W.fnOf "_law_whole" "_law_whole" (defArgs s__law_whole) (defBody s__law_whole) (defScope s__law_whole) .none kV3 dc3 pm3 an3 cd3 ct3), sl3⟩)
    (c3 : PySem.W.codeIn K cd3 "_law_whole" = true)
    (k3 : PySem.W.keepIn K (.ref f3) = true)
    (a4 : PySem.W.nsIn K mainGlobals "_law_text_of" = some (some (.ref f4)))
    (l4 : K.lookup f4 = some ⟨oc4, od4, .func (PySem.W.fnOf "_law_text_of" "_law_text_of" (defArgs s__law_text_of) (defBody s__law_text_of) (defScope s__law_text_of) .none kV4 dc4 pm4 an4 cd4 ct4), sl4⟩)
    (c4 : PySem.W.codeIn K cd4 "_law_text_of" = true)
    (k4 : PySem.W.keepIn K (.ref f4) = true)
    (a5 : PySem.W.nsIn K mainGlobals "read_number" = some (some (.ref f5)))
    (l5 : K.lookup f5 = some ⟨oc5, od5, .func (PySem.W.fnOf "read_number" "read_number" (defArgs s_read_number) (defBody s_read_number) (defScope s_read_number) .none kV5 dc5 pm5 an5 cd5 ct5), sl5⟩)
    (c5 : PySem.W.codeIn K cd5 "read_number" = true)
    (k5 : PySem.W.keepIn K (.ref f5) = true)
    (a6 : PySem.W.nsIn K mainGlobals "_law_value" = some (some (.ref f6)))
    (l6 : K.lookup f6 = some ⟨oc6, od6, .func (PySem.W.fnOf "_law_value" "_law_value" (defArgs s__law_value) (defBody s__law_value) (defScope s__law_value) .none kV6 dc6 pm6 an6 cd6 ct6), sl6⟩)
    (c6 : PySem.W.codeIn K cd6 "_law_value" = true)
    (k6 : PySem.W.keepIn K (.ref f6) = true)
    (a7 : PySem.W.nsIn K mainGlobals "_law_read" = some (some (.ref f7)))
    (l7 : K.lookup f7 = some ⟨oc7, od7, .func (PySem.W.fnOf "_law_read" "_law_read" (defArgs s__law_read) (defBody s__law_read) (defScope s__law_read) .none kV7 dc7 pm7 an7 cd7 ct7), sl7⟩)
    (c7 : PySem.W.codeIn K cd7 "_law_read" = true)
    (k7 : PySem.W.keepIn K (.ref f7) = true)
    (a8 : PySem.W.nsIn K mainGlobals "_law_read_so" = some (some (.ref f8)))
    (l8 : K.lookup f8 = some ⟨oc8, od8, .func (PySem.W.fnOf "_law_read_so" "_law_read_so" (defArgs s__law_read_so) (defBody s__law_read_so) (defScope s__law_read_so) .none kV8 dc8 pm8 an8 cd8 ct8), sl8⟩)
    (c8 : PySem.W.codeIn K cd8 "_law_read_so" = true)
    (k8 : PySem.W.keepIn K (.ref f8) = true)
    (a9 : PySem.W.nsIn K mainGlobals "_law_number" = some (some (.ref f9)))
    (l9 : K.lookup f9 = some ⟨oc9, od9, .func (PySem.W.fnOf "_law_number" "_law_number" (defArgs s__law_number) (defBody s__law_number) (defScope s__law_number) .none kV9 dc9 pm9 an9 cd9 ct9), sl9⟩)
    (c9 : PySem.W.codeIn K cd9 "_law_number" = true)
    (k9 : PySem.W.keepIn K (.ref f9) = true)
    (a10 : PySem.W.nsIn K mainGlobals "_law_text" = some (some (.ref f10)))
    (l10 : K.lookup f10 = some ⟨oc10, od10, .func (PySem.W.fnOf "_law_text" "_law_text" (defArgs s__law_text) (defBody s__law_text) (defScope s__law_text) .none kV10 dc10 pm10 an10 cd10 ct10), sl10⟩)
    (c10 : PySem.W.codeIn K cd10 "_law_text" = true)
    (k10 : PySem.W.keepIn K (.ref f10) = true)
    (a11 : PySem.W.nsIn K mainGlobals "law" = some (some (.ref f11)))
    (l11 : K.lookup f11 = some ⟨oc11, od11, .func (PySem.W.fnOf "law" "law" (defArgs s_law) (defBody s_law) (defScope s_law) .none kV11 dc11 pm11 an11 cd11 ct11), sl11⟩)
    (c11 : PySem.W.codeIn K cd11 "law" = true)
    (k11 : PySem.W.keepIn K (.ref f11) = true)
    (x_LeafError : PySem.W.excIn K c_LeafError bmV "ValueError.__new__" = true)
    (x_NoText : PySem.W.excIn K c_NoText bmV "ValueError.__new__" = true)
    (g_FIGURES : PySem.W.nsIn K mainGlobals "FIGURES" = some (some (.str "0123456789abcdef" tkc_FIGURES)))
    (g_MOST_FIGURES : PySem.W.nsIn K mainGlobals "MOST_FIGURES" = some (some (.int 20 tkc_MOST_FIGURES)))
    (b_ValueError : PySem.W.nsIn K mainGlobals "ValueError" = some none)
    (b_bool : PySem.W.nsIn K mainGlobals "bool" = some none)
    (b_divmod : PySem.W.nsIn K mainGlobals "divmod" = some none)
    (b_int : PySem.W.nsIn K mainGlobals "int" = some none)
    (b_isinstance : PySem.W.nsIn K mainGlobals "isinstance" = some none)
    (b_len : PySem.W.nsIn K mainGlobals "len" = some none)
    (b_range : PySem.W.nsIn K mainGlobals "range" = some none)
    (b_str : PySem.W.nsIn K mainGlobals "str" = some none)
    (ga_NoText : PySem.W.findIn K (.ref c_NoText) "__getattribute__" = some (some (.builtin "BaseException.__getattribute__")))
    (gn_NoText : PySem.W.findIn K (.ref c_NoText) "__getattr__" = some none)
    (be_NoText : PySem.W.mroIn K c_NoText (.type "BaseException") = some true)
    (hx_NoText : PySem.W.hasDictIn K c_NoText = true)
    (ha_NoText : PySem.W.findIn K (.ref c_NoText) "__class__" = some (some (.builtin "object.__class__")))
    (hm_NoText : PySem.W.mroIn K c_NoText (.type "object") = some true)
    (hn : PySem.W.specialIn K (.builtin "object.__class__") "__get__" = some (some (.builtin "getset_descriptor.__get__")))
    (htk : PySem.W.takesIn K (.builtin "object.__class__") = some true)
    (k_TT : PySem.W.kitOne K (.ref c_NoText) (.ref c_NoText) = some true)
    (k_TV : PySem.W.kitOne K (.ref c_NoText) (.type "ValueError") = some true)
    (k_TA : PySem.W.kitAny K (.ref c_NoText) [.ref c_NoName, .ref c_NoNumber, .ref c_NoRow, .ref c_NoWord] = some false)
    (s_T : PySem.W.mroIn K c_NoText (.ref c_LeafError) = some true) :
    ∃ fd : FuncData, (∀ (s : Shared) (v : Value), BindsTo s fd ⟨[v], []⟩ [("_law_script", v)]) ∧ ∀ base : Heap, K.In base → base.Ns mainGlobals mg → FnOk l.prog w K mg base (CXE l.prog w) 4 fa fd ["_law_script"] (spLaw K) := by
  have e := hfa.symm.trans (PySem.W.mg_of X G a11)
  cases e
  have T : Txt K mg ⟨c_LeafError, c_NoNumber, c_NoWord, c_NoName, c_NoText, c_NoRow⟩ := ⟨x_LeafError, PySem.W.mg_of X G a_c_LeafError, PySem.W.mg_of X G a_c_NoNumber, PySem.W.mg_of X G a_c_NoWord, PySem.W.mg_of X G a_c_NoName, x_NoText, PySem.W.mg_of X G a_c_NoText, PySem.W.mg_of X G a_c_NoRow, ⟨_, PySem.W.mg_of X G g_FIGURES⟩, ⟨_, PySem.W.mg_of X G g_MOST_FIGURES⟩, PySem.W.mg_none_of X G b_ValueError, PySem.W.mg_none_of X G b_bool, PySem.W.mg_none_of X G b_divmod, PySem.W.mg_none_of X G b_int, PySem.W.mg_none_of X G b_isinstance, PySem.W.mg_none_of X G b_len, PySem.W.mg_none_of X G b_range, PySem.W.mg_none_of X G b_str, ⟨ga_NoText, gn_NoText, be_NoText, hx_NoText, ha_NoText, hm_NoText⟩, ⟨hn, htk⟩, k_TT, k_TV, k_TA, s_T⟩
  refine ⟨PySem.W.fnOf "law" "law" (defArgs s_law) (defBody s_law) (defScope s_law) .none kV11 dc11 pm11 an11 cd11 ct11, fun s v => .of_eq rfl, fun base _ _ => ?_⟩
  have h__law_drawn := ok__law_drawn (P := l.prog) (w := w) (base := base) (dvs := []) ⟨f1, _, _, _, _, _, _, _, _, _, _, [], l1, c1, k1, PySem.W.mg_of X G a1, .all (fun us hl => match us, hl with | [_, _, _, _], _ => rfl), .nil⟩ T 
  have h__law_number := ok__law_number (P := l.prog) (w := w) (base := base) (dvs := []) ⟨f9, _, _, _, _, _, _, _, _, _, _, [], l9, c9, k9, PySem.W.mg_of X G a9, .all (fun us hl => match us, hl with | [_], _ => rfl), .nil⟩ T h__law_drawn
  have h_shown_number := ok_shown_number (P := l.prog) (w := w) (base := base) (dvs := []) ⟨f2, _, _, _, _, _, _, _, _, _, _, [], l2, c2, k2, PySem.W.mg_of X G a2, .all (fun us hl => match us, hl with | [_], _ => rfl), .nil⟩ T 
  have h__law_text_of := ok__law_text_of (P := l.prog) (w := w) (base := base) (dvs := []) ⟨f4, _, _, _, _, _, _, _, _, _, _, [], l4, c4, k4, PySem.W.mg_of X G a4, .all (fun us hl => match us, hl with | [_], _ => rfl), .nil⟩ T 
  have h_read_number := ok_read_number (P := l.prog) (w := w) (base := base) (dvs := []) ⟨f5, _, _, _, _, _, _, _, _, _, _, [], l5, c5, k5, PySem.W.mg_of X G a5, .all (fun us hl => match us, hl with | [_], _ => rfl), .nil⟩ T 
  have h__law_read := ok__law_read (P := l.prog) (w := w) (base := base) (dvs := []) ⟨f7, _, _, _, _, _, _, _, _, _, _, [], l7, c7, k7, PySem.W.mg_of X G a7, .all (fun us hl => match us, hl with | [_], _ => rfl), .nil⟩ T h_read_number
  have h__law_whole := ok__law_whole (P := l.prog) (w := w) (base := base) (dvs := []) ⟨f3, _, _, _, _, _, _, _, _, _, _, [], l3, c3, k3, PySem.W.mg_of X G a3, .all (fun us hl => match us, hl with | [_], _ => rfl), .nil⟩ T 
  have h__law_read_so := ok__law_read_so (P := l.prog) (w := w) (base := base) (dvs := []) ⟨f8, _, _, _, _, _, _, _, _, _, _, [], l8, c8, k8, PySem.W.mg_of X G a8, .all (fun us hl => match us, hl with | [_, _], _ => rfl), .nil⟩ T h__law_read h__law_whole
  have h__law_text := ok__law_text (P := l.prog) (w := w) (base := base) (dvs := []) ⟨f10, _, _, _, _, _, _, _, _, _, _, [], l10, c10, k10, PySem.W.mg_of X G a10, .all (fun us hl => match us, hl with | [_], _ => rfl), .nil⟩ T h__law_drawn
  have h__law_value := ok__law_value (P := l.prog) (w := w) (base := base) (dvs := []) ⟨f6, _, _, _, _, _, _, _, _, _, _, [], l6, c6, k6, PySem.W.mg_of X G a6, .all (fun us hl => match us, hl with | [_], _ => rfl), .nil⟩ T 
  exact ok_law l11 c11 T h__law_number h_shown_number h__law_text_of h__law_read_so h__law_text h__law_value
theorem walk {l : PySem.W.OpenLaw} {q : Program} {loose : List Str} {XP : (Str → Option Value) → Heap → Prop} {YP : World → Heap → Prop} {d : DefRec} {K : Params → PySem.W.Frag} (hn : l.most = some 63) (hdf : d.params.defaults = [])
    (hY : ∀ (w : World) (h : Heap), YP w h → (K w.params).In h)
    (F : ∀ (w : World) (mg : Str → Option Value) (fa : Addr) (h : Heap), (K w.params).In h → h.Ns mainGlobals mg → mg d.name = some (.ref fa) →
      ∃ fd : FuncData, (∀ (s : Shared) (u : Value), BindsTo s fd ⟨[u], []⟩ [("_law_script", u)]) ∧ ∀ base : Heap, (K w.params).In base → base.Ns mainGlobals mg → FnOk l.prog w (K w.params) mg base (CXE l.prog w) 4 fa fd ["_law_script"] (spLaw (K w.params))) :
    PySem.W.WalkO q loose XP YP l.row.toRowW d [] (fun f vs => PySem.call f vs) :=
  L2.walk_of (n := 63) (k := 4) (x := "_law_script") (CX := fun w => CXE l.prog w) (sp := fun w => spLaw (K w.params)) hn (by decide) hdf ⟨rfl, by decide, by decide⟩ hY F (fun _ _ a ns hl _ hS => ⟨a, ns, rfl, hS, hl, fun _ => rfl⟩) fun _ _ _ _ _ z => by
    obtain ⟨_, _, _, _, _, _, _, _, _, _, q⟩ := z
    exact q
end K51

set_option maxHeartbeats 4000000
open PySem PySem.W PyProof.Rows
theorem PySem.W.Fast.tw1740936101082922145 : True := trivial
theorem PySem.W.Fast.tw9784048090788557907 : True := trivial
theorem PySem.W.Fast.tw1044815002475205179 : True := trivial
theorem PySem.W.Fast.tw9556266103305147673 : True := trivial
theorem PySem.W.Fast.tw18142141432196120949 : True := trivial
theorem PySem.W.Fast.tw16105971022132187689 : True := trivial
theorem PySem.W.Fast.tw17241651023309314738 : True := trivial
set_option maxHeartbeats 0 in
theorem PySem.Challenge.cw_leafframe_k51_numbers_written_holds : PySem.Challenge.rw_leafframe_k51_numbers_written.Holds := by
  w_on; o_law; k_head; (case hw => w_witness2)
  k_fill
  refine K51.walk (l := PySem.Challenge.rw_leafframe_k51_numbers_written) rfl rfl (fun w h Y => PySem.W.kIn_of Y) ?F
  case F =>
    intro w mg fa h KX G hmg
    refine' K51.all_mk KX G hmg ?a_c_LeafError ?a_c_NoNumber ?a_c_NoWord ?a_c_NoName ?a_c_NoText ?a_c_NoRow ?a1 ?l1 ?c1 ?k1 ?a2 ?l2 ?c2 ?k2 ?a3 ?l3 ?c3 ?k3 ?a4 ?l4 ?c4 ?k4 ?a5 ?l5 ?c5 ?k5 ?a6 ?l6 ?c6 ?k6 ?a7 ?l7 ?c7 ?k7 ?a8 ?l8 ?c8 ?k8 ?a9 ?l9 ?c9 ?k9 ?a10 ?l10 ?c10 ?k10 ?a11 ?l11 ?c11 ?k11 ?x_LeafError ?x_NoText ?g_FIGURES ?g_MOST_FIGURES ?b_ValueError ?b_bool ?b_divmod ?b_int ?b_isinstance ?b_len ?b_range ?b_str ?ga_NoText ?gn_NoText ?be_NoText ?hx_NoText ?ha_NoText ?hm_NoText ?hn ?htk ?k_TT ?k_TV ?k_TA ?s_T
    (case a_c_LeafError => k_is)
    (case a_c_NoNumber => k_is)
    (case a_c_NoWord => k_is)
    (case a_c_NoName => k_is)
    (case a_c_NoText => k_is)
    (case a_c_NoRow => k_is)
    (case a1 => k_is)
    (case l1 => k_is)
    (case c1 => k_is)
    (case k1 => k_is)
    (case a2 => k_is)
    (case l2 => k_is)
    (case c2 => k_is)
    (case k2 => k_is)
    (case a3 => k_is)
    (case l3 => k_is)
    (case c3 => k_is)
    (case k3 => k_is)
    (case a4 => k_is)
    (case l4 => k_is)
    (case c4 => k_is)
    (case k4 => k_is)
    (case a5 => k_is)
    (case l5 => k_is)
    (case c5 => k_is)
    (case k5 => k_is)
    (case a6 => k_is)
    (case l6 => k_is)
    (case c6 => k_is)
    (case k6 => k_is)
    (case a7 => k_is)
    (case l7 => k_is)
    (case c7 => k_is)
    (case k7 => k_is)
    (case a8 => k_is)
    (case l8 => k_is)
    (case c8 => k_is)
    (case k8 => k_is)
    (case a9 => k_is)
    (case l9 => k_is)
    (case c9 => k_is)
    (case k9 => k_is)
    (case a10 => k_is)
    (case l10 => k_is)
    (case c10 => k_is)
    (case k10 => k_is)
    (case a11 => k_is)
    (case l11 => k_is)
    (case c11 => k_is)
    (case k11 => k_is)
    (case x_LeafError => k_exc)
    (case x_NoText => k_exc)
    (case g_FIGURES => k_is)
    (case g_MOST_FIGURES => k_is)
    (case b_ValueError => k_is)
    (case b_bool => k_is)
    (case b_divmod => k_is)
    (case b_int => k_is)
    (case b_isinstance => k_is)
    (case b_len => k_is)
    (case b_range => k_is)
    (case b_str => k_is)
    (case ga_NoText => k_is)
    (case gn_NoText => k_is)
    (case be_NoText => k_is)
    (case hx_NoText => k_is)
    (case ha_NoText => k_is)
    (case hm_NoText => k_is)
    (case hn => k_is)
    (case htk => k_is)
    (case k_TT => kit_is)
    (case k_TV => kit_is)
    (case k_TA => kit_is)
    (case s_T => k_is)
