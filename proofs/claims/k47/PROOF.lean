import PyProof.Rows.All
import Wide.All
import Wide.FinOn
import Lean
import PyProof.EqAt
import PyProof.EqKinds
import PyProof.TupleCall
import PyProof.StationsW
import PyProof.ExcClass2
import PyProof.ExcArgs
import PyProof.ExcArgsOwn
import PyProof.CompFree
import PyProof.CompMap
import PyProof.CompUse
import KE.LcSums
import KE.KUnpack
import KE.KDictSum
import KE.KDictLaws
import PyProof.Rows.BitMore
import KE.BitLaws
import KE.KBits
import PyProof.LongRange
import PyProof.ListRange
import KE.IntBitsLaws
import KE.KRevIter
import PyProof.Rows.Tup
import PyProof.CollectIter
import PyProof.TupleOfGen
import PyProof.DictWalks
import PyProof.StrWalks
import PyProof.ZipIter
import KE.KTurns
import PyProof.Rows.SortStr
import KE.KSortTup
import PyProof.Rows.StrClose5
import PyProof.Rows.StrClose3
import PyProof.ExcInit
import PyProof.InstStore
import PyProof.InstLoad
import PyProof.InstStoreFacts
import KE.KDictOf
import PyProof.FactsAll.range_2
import PyProof.InstEq
import PyProof.AttrMissHeap
import PyProof.EnumMake
import PyProof.Rows.SortShell
import OpenK.KLine
import KE.RegKIsAll
import PySem.Challenge.RW_leafframe_k47_tallied
namespace L2
def o1 {A:Sort _}{P:A->Prop}{G:Prop}(k:∀a,P a->G)(h:∃a,P a):G:=h.elim fun a h=>k a h
def o2 {A B:Sort _}{P:A->B->Prop}{G:Prop}(k:∀a b,P a b->G)(h:∃a b,P a b):G:=h.elim fun a h=>o1 (k a) h
def o3 {A B C:Sort _}{P:A->B->C->Prop}{G:Prop}(k:∀a b c,P a b c->G)(h:∃a b c,P a b c):G:=h.elim fun a h=>o2 (k a) h
def o4 {A B C D:Sort _}{P:A->B->C->D->Prop}{G:Prop}(k:∀a b c d,P a b c d->G)(h:∃a b c d,P a b c d):G:=h.elim fun a h=>o3 (k a) h
def o5 {A B C D E:Sort _}{P:A->B->C->D->E->Prop}{G:Prop}(k:∀a b c d e,P a b c d e->G)(h:∃a b c d e,P a b c d e):G:=h.elim fun a h=>o4 (k a) h
def o6 {A B C D E F:Sort _}{P:A->B->C->D->E->F->Prop}{G:Prop}(k:∀a b c d e f,P a b c d e f->G)(h:∃a b c d e f,P a b c d e f):G:=h.elim fun a h=>o5 (k a) h
def o7 {A B C D E F I:Sort _}{P:A->B->C->D->E->F->I->Prop}{G:Prop}(k:∀a b c d e f g,P a b c d e f g->G)(h:∃a b c d e f g,P a b c d e f g):G:=h.elim fun a h=>o6 (k a) h
def o8 {A B C D E F I J:Sort _}{P:A->B->C->D->E->F->I->J->Prop}{G:Prop}(k:∀a b c d e f g i,P a b c d e f g i->G)(h:∃a b c d e f g i,P a b c d e f g i):G:=h.elim fun a h=>o7 (k a) h
def o9 {A B C D E F I J L:Sort _}{P:A->B->C->D->E->F->I->J->L->Prop}{G:Prop}(k:∀a b c d e f g i j,P a b c d e f g i j->G)(h:∃a b c d e f g i j,P a b c d e f g i j):G:=h.elim fun a h=>o8 (k a) h
def a1 {A B G:Prop}(k:A->B->G)(h:A/\B):G:=k h.1 h.2
def a2 {A B C G:Prop}(k:A->B->C->G)(h:A/\B/\C):G:=a1 (k h.1) h.2
def a3 {A B C D G:Prop}(k:A->B->C->D->G)(h:A/\B/\C/\D):G:=a2 (k h.1) h.2
def a4 {A B C D E G:Prop}(k:A->B->C->D->E->G)(h:A/\B/\C/\D/\E):G:=a3 (k h.1) h.2
def a5 {A B C D E F G:Prop}(k:A->B->C->D->E->F->G)(h:A/\B/\C/\D/\E/\F):G:=a4 (k h.1) h.2
def a6 {A B C D E F I G:Prop}(k:A->B->C->D->E->F->I->G)(h:A/\B/\C/\D/\E/\F/\I):G:=a5 (k h.1) h.2
def a7 {A B C D E F I J G:Prop}(k:A->B->C->D->E->F->I->J->G)(h:A/\B/\C/\D/\E/\F/\I/\J):G:=a6 (k h.1) h.2
def a8 {A B C D E F I J L G:Prop}(k:A->B->C->D->E->F->I->J->L->G)(h:A/\B/\C/\D/\E/\F/\I/\J/\L):G:=a7 (k h.1) h.2
def a9 {A B C D E F I J L M G:Prop}(k:A->B->C->D->E->F->I->J->L->M->G)(h:A/\B/\C/\D/\E/\F/\I/\J/\L/\M):G:=a8 (k h.1) h.2
open Lean Parser.Tactic
abbrev Pt:=TSyntax `Lean.Parser.Tactic.rcasesPatLo
abbrev Tc:=TSyntax `tactic
def ob (ps:List Pt) (e:Option Term):MacroM (Tc):=do
  let kd (p:Pt):Nat:=let q:=p.raw[0][0];if p.raw[1].getNumArgs != 0 || q.getNumArgs != 1 then 3 else if q[0].isOfKind ``rcasesPat.ignore then 0 else if !q[0].isOfKind ``rcasesPat.one then 3 else if q[0][0].getId == `rfl then 2 else 1
  let iA (e:Term):Bool:=e.raw.isIdent && e.raw.getId.eraseMacroScopes.isAtomic
  let n:=ps.length
  let cf:=match e with
    | some e=>!iA e && ps.any (kd · == 2) && (e.raw.find? fun x=>x.isIdent && ps.any fun p=>kd p == 1 && p.raw[0][0][0][0].getId == x.getId.getRoot).isSome
    | none=>false
  let j:=(ps.takeWhile (kd · < if cf then 2 else 3)).length
  let rs ← ps.toArray.mapIdxM fun i _=>do pure (mkIdent (← Macro.addMacroScope (.mkSimple s!"r{i}")))
  let mut alts:Array (TSyntax `Lean.Parser.Tactic.tacticSeq):=#[]
  for d in [0:9] do
    let k:=9 - d
    if k < n && k ≤ j + 1 && !(cf && k + 1 == n && kd ps[k]! > 1) then
      let m:=if k + 1 == n && !cf then n else k
      let o:=mkIdent (`L2 ++ .mkSimple s!"o{k}")
      let a:=mkIdent (`L2 ++ .mkSimple s!"a{k}")
      let mut t ← match e with
        | some e=>`(tactic| first | refine $o ?_ $e | refine $a ?_ $e)
        | none=>`(tactic| first | refine $o ?_ | refine $a ?_)
      if let some e:=e then
        if iA e then t ← `(tactic| $t <;> try clear $(⟨e.raw⟩):ident)
      let bs:Array Term ← (Array.range m).mapM fun i=>let p:=ps[i]!;match kd p with
        | 0=>`(_)
        | 1=>pure ⟨p.raw[0][0][0][0]⟩
        | _=>pure ⟨(rs[i]!).raw⟩
      t ← `(tactic| $t <;> intro $bs*)
      if m == k && !cf then t ← `(tactic| $t <;> rintro ⟨$((ps.drop k).toArray),*⟩)
      for i in [0:m] do
        if kd ps[i]! > 1 then t ← `(tactic| $t <;> obtain $(⟨ps[i]!.raw[0]⟩):rcasesPatMed:=$(rs[i]!):ident)
      if cf then t ← (if k + 1 == n && kd ps[k]! == 1 then `(tactic| $t <;> intro $(⟨ps[k]!.raw[0][0][0][0]⟩):term) else if k + 1 == n then `(tactic| $t <;> intro _) else `(tactic| $t <;> (intro r;rcases r with ⟨$((ps.drop k).toArray),*⟩)))
      alts:=alts.push (← `(tacticSeq| $t:tactic))
  match e with
  | some e=>`(tactic| first $[| $alts:tacticSeq]* | rcases $e:term with ⟨$(ps.toArray),*⟩)
  | none=>`(tactic| first $[| $alts:tacticSeq]* | (intro r;rcases r with ⟨$(ps.toArray),*⟩))
end L2
local macro_rules | `(tactic| obtain ⟨$ps,*⟩ := $e:term) => L2.ob ps.getElems.toList (some e)
local macro_rules | `(tactic| rintro ⟨$ps,*⟩) => L2.ob ps.getElems.toList none
set_option Elab.async false
set_option linter.all false
set_option maxRecDepth 100000
namespace L2
open PySem PySem.Spec PyProof.Rows
abbrev Key := Sum Int Str
def keyIs : Key → Value → Bool
  | .inl k, v => Value.isInt k v
  | .inr x, v => Value.isStrOf x v
def keyH (w : World) : Key → Int
  | .inl k => hashInt k
  | .inr x => hashStr w x
theorem keyIs_shape : ∀ {k : Key} {v : Value}, keyIs k v = true → (∃ i t, k = Sum.inl i ∧ v = Value.int i t) ∨ (∃ x t, k = Sum.inr x ∧ v = Value.str x t)
  | .inl i, v, h => by
    obtain ⟨t, e⟩ := Value.isInt_shape (k := i) (v := v) h
    exact .inl ⟨i, t, rfl, e⟩
  | .inr x, v, h => by
    obtain ⟨t, e⟩ := Value.isStrOf_shape (x := x) (v := v) h
    exact .inr ⟨x, t, rfl, e⟩
theorem keyIs_int (i : Int) (t : Tok) : keyIs (.inl i) (.int i t) = true := by simp [keyIs, Value.isInt]
theorem keyIs_str (x : Str) (t : Tok) : keyIs (.inr x) (.str x t) = true := by simp [keyIs, Value.isStrOf]
theorem key_ll (a b : Int) : decide ((Sum.inl a : Key) = Sum.inl b) = (a == b) := by
  by_cases e : a = b
  · subst e; simp
  · have h : ¬ (Sum.inl a : Key) = Sum.inl b := fun q => e (Sum.inl.inj q)
    rw [decide_eq_false h]
    exact (beq_eq_false_iff_ne.mpr e).symm
theorem key_rr (a b : Str) : decide ((Sum.inr a : Key) = Sum.inr b) = decide (a = b) := by
  by_cases e : a = b
  · subst e; simp
  · have h : ¬ (Sum.inr a : Key) = Sum.inr b := fun q => e (Sum.inr.inj q)
    rw [decide_eq_false h, decide_eq_false e]
theorem key_lr (a : Int) (b : Str) : decide ((Sum.inl a : Key) = Sum.inr b) = false := decide_eq_false (fun q => nomatch q)
theorem key_rl (a : Str) (b : Int) : decide ((Sum.inr a : Key) = Sum.inl b) = false := decide_eq_false (fun q => nomatch q)
def mixKind (prog : Program) (w : World) : PySem.KeyKind prog w Key where
  is := keyIs
  hash := keyH w
  inj := fun v a b ha hb => by
    rcases keyIs_shape ha with ⟨i, t, rfl, rfl⟩ | ⟨x, t, rfl, rfl⟩
    · rcases keyIs_shape hb with ⟨j, u, rfl, e⟩ | ⟨y, u, rfl, e⟩
      · injection e with e1 _; rw [e1]
      · exact nomatch e
    · rcases keyIs_shape hb with ⟨j, u, rfl, e⟩ | ⟨y, u, rfl, e⟩
      · exact nomatch e
      · injection e with e1 _; rw [e1]
  byValue := fun k v h => by
    rcases keyIs_shape h with ⟨i, t, rfl, rfl⟩ | ⟨x, t, rfl, rfl⟩ <;> rfl
  pyHash := fun hv h => by
    rcases keyIs_shape hv with ⟨i, t, rfl, rfl⟩ | ⟨x, t, rfl, rfl⟩
    · exact wpAny_pyHash_int h
    · exact wpAny_pyHash_str h
  eqBool := fun hu hv h => by
    rcases keyIs_shape hu with ⟨i, t, rfl, rfl⟩ | ⟨x, t, rfl, rfl⟩
    · rcases keyIs_shape hv with ⟨j, u, rfl, rfl⟩ | ⟨y, u, rfl, rfl⟩
      · rw [key_ll] at h; exact wpAny_eqBool_int h
      · rw [key_lr] at h; exact SeqAt.EqAt.int_str i t y u _ _ _ _ h
    · rcases keyIs_shape hv with ⟨j, u, rfl, rfl⟩ | ⟨y, u, rfl, rfl⟩
      · rw [key_rl] at h; exact SeqAt.EqAt.str_int x t j u _ _ _ _ h
      · rw [key_rr] at h; exact wpAny_eqBool_str h
  «strs» := fun k x t v h => by
    rcases keyIs_shape h with ⟨i, u, rfl, e⟩ | ⟨y, u, rfl, e⟩
    · exact nomatch e
    · injection e with e1 _
      subst e1
      cases v <;> rfl
theorem mixKind_int (prog : Program) (w : World) (i : Int) (t : Tok) : (mixKind prog w).is (.inl i) (.int i t) = true := keyIs_int i t
theorem mixKind_str (prog : Program) (w : World) (x : Str) (t : Tok) : (mixKind prog w).is (.inr x) (.str x t) = true := keyIs_str x t
end L2
namespace L2
open PySem PySem.Spec PyProof.Rows
inductive V where
  | non | bl (b : Bool) | int (i : Int) | str (x : Str) | byt (b : Array UInt8) | flt (b : UInt64) | ref (a : Addr) | ty (n : String)
  deriving DecidableEq
def RelV : V → Value → Prop
  | .non, u => u = Value.none
  | .bl b, u => u = Value.bool b
  | .int i, u => ∃ t, u = Value.int i t
  | .str x, u => ∃ t, u = Value.str x t
  | .byt b, u => ∃ t, u = Value.bytes b t
  | .flt b, u => ∃ t, u = Value.float b t
  | .ref a, u => u = Value.ref a
  | .ty n, u => u = Value.type n
abbrev Vals : List V → List Value → Prop := Paired RelV
theorem Vals.length {xs : List V} {us : List Value} (r : Vals xs us) : xs.length = us.length := Paired.length r
theorem Vals.get : ∀ {xs : List V} {us : List Value} {i : Nat} {x : V}, Vals xs us → xs[i]? = some x → ∃ u, us[i]? = some u ∧ RelV x u
  | _, _, _, _, .nil, e => by simp at e
  | _, _, 0, _, .cons r _, e => by simp at e; subst e; exact ⟨_, rfl, r⟩
  | _, _, i + 1, x, .cons _ t, e => by
    obtain ⟨u, h1, h2⟩ := Vals.get (i := i) (x := x) t (by simpa using e)
    exact ⟨u, by simpa using h1, h2⟩
theorem Vals.set {x : V} {u : Value} (r : RelV x u) : ∀ {xs : List V} {us : List Value} (i : Nat), Vals xs us → Vals (xs.set i x) (us.set i u)
  | _, _, _, .nil => .nil
  | _, _, 0, .cons _ t => .cons r t
  | _, _, i + 1, .cons q t => .cons q (Vals.set r i t)
theorem Vals.append : ∀ {xs ys : List V} {us ws : List Value}, Vals xs us → Vals ys ws → Vals (xs ++ ys) (us ++ ws)
  | _, _, _, _, .nil, s => s
  | _, _, _, _, .cons r t, s => .cons r (Vals.append t s)
theorem Vals.take : ∀ {xs : List V} {us : List Value} (n : Nat), Vals xs us → Vals (xs.take n) (us.take n)
  | _, _, 0, _ => .nil
  | _, _, _ + 1, .nil => .nil
  | _, _, n + 1, .cons r t => .cons r (Vals.take n t)
theorem Vals.drop : ∀ {xs : List V} {us : List Value} (n : Nat), Vals xs us → Vals (xs.drop n) (us.drop n)
  | _, _, 0, r => r
  | _, _, _ + 1, .nil => .nil
  | _, _, n + 1, .cons _ t => Vals.drop n t
def RelO : Option V → Option Value → Prop
  | some v, some u => RelV v u
  | none, none => True
  | _, _ => False
def KV {κ : Type} : List (κ × V) → List (κ × Value) → Prop := Paired fun (p : κ × V) (q : κ × Value) => p.1 = q.1 ∧ RelV p.2 q.2
def kV : Key → V
  | .inl i => .int i
  | .inr x => .str x
inductive HO where
  | lst (xs : List V)
  | tup (xs : List V)
  | dK (kvs : List (Key × V)) | dT (kvs : List (List Key × V))
  | set (S : Int → Bool) (n : Nat)
  | ins (C dx : Addr) (fs : List (Str × V))
  | own (x : Addr)
  | xd (fs : List (Str × V))
  | met (f x : Addr)
  | rng (lo hi : Int)
  | frz (o : Obj) (u : HO)
  | tbl (ps : Array Value)
  | ext (φ : Heap → Prop)
abbrev Hp := Addr → Option HO
def upd (H : Hp) (a : Addr) (o : HO) : Hp := fun b => if b = a then some o else H b
theorem upd_same {H : Hp} {a : Addr} {o : HO} : upd H a o a = some o := by unfold upd; rw [if_pos rfl]
theorem upd_ne {H : Hp} {a b : Addr} {o : HO} (h : b ≠ a) : upd H a o b = H b := by unfold upd; rw [if_neg h]
theorem upd_upd {H : Hp} {a : Addr} {o u : HO} : upd (upd H a o) a u = upd H a u := by
  funext b; unfold upd; split <;> rfl
theorem ne_of {H : Hp} {a b : Addr} {o u : HO} (h : H a = some o) (h' : H b = some u) (d : o ≠ u) : a ≠ b := by
  intro e; subst e; rw [h] at h'; exact d (Option.some.inj h')
theorem ne_of_none {H : Hp} {a b : Addr} {o : HO} (h : H a = some o) (h' : H b = none) : a ≠ b := by
  intro e; subst e; rw [h] at h'; cases h'
section
variable (P : Program) (w : World)
def ObjOk (H : Hp) (h : Heap) (a : Addr) : HO → Prop
  | .lst xs => xs.length ≤ sizeLine ∧ ∃ (its : List Value) (n : Nat), Vals xs its ∧ h.get? a = some { cls := .type "list", data := .seq its.toArray n }
  | .tup xs => xs.length ≤ sizeLine ∧ ∃ its : List Value, Vals xs its ∧ IsTup h a its.toArray
  | .dK kvs => kvs.length ≤ sizeLine ∧ (a == sysModules) = false ∧ ∃ vs, KV kvs vs ∧ h.DictOf (mixKind P w) a vs
  | .dT kvs => kvs.length ≤ sizeLine ∧ (a == sysModules) = false ∧ ∃ xs : List (List Key × Addr × Value),
      Paired (fun (p : List Key × V) (q : List Key × Addr × Value) => p.1 = q.1 ∧ H q.2.1 = some (.tup (p.1.map kV)) ∧ RelV p.2 q.2.2) kvs xs ∧
      ∃ o es ep, h.get? a = some o ∧ o.ExactDict ∧ o.data = .dict es ep ∧ es.toList = xs.map (entryOfKey (tupleKind (mixKind P w))) ∧ (xs.map (·.1)).Nodup
  | .set S n => h.SetOf (intKind P w) a S n
  | .ins C dx fs => H dx = some (.own a) ∧ fs.length ≤ 1000 ∧ dx ≠ a ∧ h.get? a = some (PySem.W.instObj C dx) ∧
      ∃ mA, h.Ns1 dx mA ∧ (∀ f, RelO (fs.lookup f) (mA f)) ∧ PySem.Within mA (fs.map (·.1))
  | .own _ => ∃ o, h.get? a = some o
  | .xd fs => ∃ mA, h.Ns1 a mA ∧ ∀ f, RelO (fs.lookup f) (mA f)
  | .rng lo hi => ∃ t u v, h.get? a = some { cls := .type "range", data := .fields #[.int lo t, .int hi u, .int 1 v] }
  | .frz o u => h.get? a = some o ∧ ObjOk H h a u
  | .tbl ps => h.get? a = some { cls := .none, data := .fields ps }
  | .met f x => h.get? a = some (PySem.W.methodObj (.ref f) (.ref x))
  | .ext φ => φ h ∧ (∃ o, h.get? a = some o) ∧ ∀ h1 h2 : Heap, φ h1 → (∀ o, h1.get? a = some o → h2.get? a = some o) → φ h2
def HOk (H : Hp) (h : Heap) : Prop := ∀ a o, H a = some o → ObjOk P w H h a o
end
section
variable {P : Program} {w : World} {H H' : Hp} {h h' : Heap} {a : Addr} {o : HO}
theorem ObjOk.lt (x : ObjOk P w H h a o) : a < h.objs.size := by
  cases o with
  | lst xs => obtain ⟨_, _, _, _, e⟩ := x; exact Heap.lt_size e
  | tup xs => obtain ⟨_, _, _, p⟩ := x; exact p.lt
  | dK kvs => obtain ⟨_, _, _, _, o, _, _, e, _⟩ := x; exact Heap.lt_size e
  | dT kvs => obtain ⟨_, _, _, _, o, _, _, e, _⟩ := x; exact Heap.lt_size e
  | set S n => obtain ⟨o, _, _, _, e, _⟩ := x; exact Heap.lt_size e
  | ins C dx fs => obtain ⟨_, _, _, e, _⟩ := x; exact Heap.lt_size e
  | own y => obtain ⟨_, e⟩ := x; exact Heap.lt_size e
  | xd fs => obtain ⟨_, ⟨_, _, _, e, _⟩, _⟩ := x; exact Heap.lt_size e
  | rng lo hi => obtain ⟨_, _, _, e⟩ := x; exact Heap.lt_size e
  | frz ob u => obtain ⟨e, _⟩ := x; exact Heap.lt_size e
  | tbl ps => exact Heap.lt_size (show h.get? a = some _ from x)
  | met f y => exact Heap.lt_size (show h.get? a = some _ from x)
  | ext φ => obtain ⟨_, ⟨_, e⟩, _⟩ := x; exact Heap.lt_size e
theorem Paired.mapP {α β : Type} {F G : α → β → Prop} : ∀ {l₁ : List α} {l₂ : List β}, Paired F l₁ l₂ → (∀ a b, F a b → G a b) → Paired G l₁ l₂
  | _, _, .nil, _ => .nil
  | _, _, .cons r t, f => .cons (f _ _ r) (Paired.mapP t f)
theorem ObjOk.stay (x : ObjOk P w H h a o) (k : ∀ b u, (b = a ∨ H b = some (.own a)) → h.get? b = some u → h'.get? b = some u)
    (ho : ∀ b, H b = some (.own a) → H' b = some (.own a)) (ht : ∀ b xs, H b = some (.tup xs) → H' b = some (.tup xs)) : ObjOk P w H' h' a o := by
  induction o with
  | lst xs => obtain ⟨z, its, n, r, e⟩ := x; exact ⟨z, its, n, r, k _ _ (.inl rfl) e⟩
  | tup xs => obtain ⟨z, its, r, ob, e, c⟩ := x; exact ⟨z, its, r, ob, k _ _ (.inl rfl) e, c⟩
  | dK kvs => obtain ⟨z, y, vs, r, ob, es, ep, e, c⟩ := x; exact ⟨z, y, vs, r, ob, es, ep, k _ _ (.inl rfl) e, c⟩
  | dT kvs =>
    obtain ⟨z, y, xs, r, ob, es, ep, e, c⟩ := x
    exact ⟨z, y, xs, Paired.mapP r fun p q z => ⟨z.1, ht _ _ z.2.1, z.2.2⟩, ob, es, ep, k _ _ (.inl rfl) e, c⟩
  | set S n => obtain ⟨ob, es, ep, t, e, c⟩ := x; exact ⟨ob, es, ep, t, k _ _ (.inl rfl) e, c⟩
  | ins C dx fs =>
    obtain ⟨d, z, ne, e, mA, ⟨od, es, ep, e2, c⟩, r⟩ := x
    exact ⟨ho _ d, z, ne, k _ _ (.inl rfl) e, mA, ⟨od, es, ep, k _ _ (.inr d) e2, c⟩, r⟩
  | own y => obtain ⟨ob, e⟩ := x; exact ⟨ob, k _ _ (.inl rfl) e⟩
  | xd fs => obtain ⟨mA, ⟨od, es, ep, e, c⟩, r⟩ := x; exact ⟨mA, ⟨od, es, ep, k _ _ (.inl rfl) e, c⟩, r⟩
  | rng lo hi => obtain ⟨t, u, v, e⟩ := x; exact ⟨t, u, v, k _ _ (.inl rfl) e⟩
  | frz ob u ih => obtain ⟨e, q⟩ := x; exact ⟨k _ _ (.inl rfl) e, ih q⟩
  | tbl ps =>
    have e : h.get? a = some { cls := .none, data := .fields ps } := x
    show h'.get? a = some { cls := .none, data := .fields ps }
    exact k a _ (.inl rfl) e
  | met f y =>
    have e : h.get? a = some (PySem.W.methodObj (.ref f) (.ref y)) := x
    show h'.get? a = some (PySem.W.methodObj (.ref f) (.ref y))
    exact k a _ (.inl rfl) e
  | ext φ => obtain ⟨p, ⟨o, e⟩, st⟩ := x; exact ⟨st _ _ p fun o q => k _ _ (.inl rfl) q, ⟨o, k _ _ (.inl rfl) e⟩, st⟩
theorem HOk.lt (x : HOk P w H h) (e : H a = some o) : a < h.objs.size := (x a o e).lt
theorem HOk.fresh (x : HOk P w H h) (e : h.objs.size ≤ a) : H a = none := by
  cases q : H a with
  | none => rfl
  | some u => exact absurd (Nat.lt_of_lt_of_le (x.lt q) e) (Nat.lt_irrefl _)
theorem HOk.kept (x : HOk P w H h) (k : ∀ b u, h.get? b = some u → h'.get? b = some u) : HOk P w H h' := fun a o e =>
  (x a o e).stay (fun b u _ q => k b u q) (fun _ q => q) fun _ _ q => q
theorem HOk.laid (x : HOk P w H h) (k : ∀ b u, h.get? b = some u → h'.get? b = some u) (hp : h.objs.size ≤ a) (new : ObjOk P w (upd H a o) h' a o) : HOk P w (upd H a o) h' := fun b u e => by
  have hn := x.fresh hp
  by_cases hb : b = a
  · subst hb; rw [upd_same] at e; cases e; exact new
  · rw [upd_ne hb] at e
    exact (x b u e).stay (fun c v _ q => k c v q) (fun c q => by rw [upd_ne (ne_of_none q hn)]; exact q) fun c xs q => by rw [upd_ne (ne_of_none q hn)]; exact q
end
def Rd (H : Hp) (a : Addr) (u : HO) : Prop := H a = some u ∨ ∃ o, H a = some (.frz o u)
theorem Rd.of {H : Hp} {a : Addr} {u : HO} (h : H a = some u) : Rd H a u := .inl h
theorem Rd.ok {P : Program} {w : World} {H : Hp} {h : Heap} {a : Addr} {u : HO} (r : Rd H a u) (x : HOk P w H h) : ObjOk P w H h a u := by
  rcases r with r | ⟨o, r⟩
  · exact x a u r
  · obtain ⟨_, q⟩ := x a _ r
    exact q
def Mut : Option HO → Prop
  | some (.lst _) => True
  | some (.dK _) => True
  | some (.dT _) => True
  | some (.set _ _) => True
  | some (.ins _ _ _) => True
  | some (.ext _) => True
  | _ => False
section
variable {P : Program} {w : World} {H : Hp} {h h' : Heap} {x e : Addr} {o' : HO}
theorem HOk.write (ok : HOk P w H h) (mu : Mut (H x)) (he : e = x ∨ H e = some (.own x)) (k : ∀ b u, b ≠ e → h.get? b = some u → h'.get? b = some u) (heo : ∃ u, h'.get? e = some u)
    (new : ObjOk P w (upd H x o') h' x o') : HOk P w (upd H x o') h' := fun b u q => by
  have nown : ∀ c y, H c = some (.own y) → c ≠ x := fun c y r z => by subst z; rw [r] at mu; exact mu
  have ntup : ∀ c xs, H c = some (.tup xs) → c ≠ x := fun c xs r z => by subst z; rw [r] at mu; exact mu
  by_cases hb : b = x
  · subst hb; rw [upd_same] at q; cases q; exact new
  · rw [upd_ne hb] at q
    by_cases hbe : b = e
    · have q' : H b = some (.own x) := by
        rcases he with z | z
        · exact absurd (hbe.trans z) hb
        · rw [hbe]; exact z
      rw [q] at q'; cases q'
      obtain ⟨v, hv⟩ := heo
      exact ⟨v, by rw [hbe]; exact hv⟩
    · refine (ok b u q).stay (fun c v hc r => k c v ?_ r) (fun c r => by rw [upd_ne (nown c b r)]; exact r) fun c xs r => by rw [upd_ne (ntup c xs r)]; exact r
      rcases hc with rfl | hc
      · exact hbe
      · rintro rfl
        rcases he with z | z
        · exact nown c b hc z
        · rw [hc] at z; cases z; exact hb rfl
end
structure Un (fs ex : List Addr) (H H' : Hp) (h h' : Heap) : Prop where
  keep : ∀ b o, h.get? b = some o → H b = none → b ∉ fs → b ∉ ex → h'.get? b = some o
  slot : ∀ b o, h.get? b = some o → H b = none → b ∈ fs → b ∉ ex → ∃ sl, h'.get? b = some { o with slots := sl }
  free : ∀ b o, h.get? b = some o → H b = none → b ∉ ex → H' b = none
  there : ∀ b o, h.get? b = some o → b ∉ ex → ∃ o', h'.get? b = some o'
  tups : ∀ b xs, H b = some (.tup xs) → H' b = some (.tup xs)
  frzs : ∀ b o u, H b = some (.frz o u) → H' b = some (.frz o u)
  tbls : ∀ b ps, H b = some (.tbl ps) → ∃ more, H' b = some (.tbl (ps ++ more))
section
variable {fs fs' ex ex' : List Addr} {H H1 H2 : Hp} {h h1 h2 h' : Heap} {a x e : Addr} {o : HO}
theorem Un.any (u : Un fs ex H H1 h h1) {b : Addr} {ob : Obj} (q : h.get? b = some ob) (n : H b = none) (hx : b ∉ ex) : ∃ sl, h1.get? b = some { ob with slots := sl } := by
  by_cases hb : b ∈ fs
  · exact u.slot b ob q n hb hx
  · exact ⟨ob.slots, u.keep b ob q n hb hx⟩
theorem Un.kept (k : ∀ b u, h.get? b = some u → h'.get? b = some u) : Un fs ex H H h h' :=
  ⟨fun b ob q _ _ _ => k b ob q, fun b ob q _ _ _ => ⟨ob.slots, k b ob q⟩, fun _ _ _ n _ => n, fun b ob q _ => ⟨ob, k b ob q⟩, fun _ _ q => q, fun _ _ _ q => q, fun _ ps q => ⟨#[], by rw [q]; simp⟩⟩
theorem Un.refl : Un fs ex H H h h := Un.kept fun _ _ q => q
theorem Un.laid (k : ∀ b u, h.get? b = some u → h'.get? b = some u) (hp : h.objs.size ≤ a) (hn : H a = none) : Un fs ex H (upd H a o) h h' where
  keep := fun b u q _ _ _ => k b u q
  slot := fun b u q _ _ _ => ⟨u.slots, k b u q⟩
  free := fun b u q n _ => by rw [upd_ne (Nat.ne_of_lt (Nat.lt_of_lt_of_le (Heap.lt_size q) hp))]; exact n
  there := fun b u q _ => ⟨u, k b u q⟩
  tups := fun b xs q => by rw [upd_ne (ne_of_none q hn)]; exact q
  frzs := fun b u xs q => by rw [upd_ne (ne_of_none q hn)]; exact q
  tbls := fun b ps q => ⟨#[], by rw [upd_ne (ne_of_none q hn), q]; simp⟩
theorem Un.write (mu : Mut (H x)) (he : e = x ∨ H e = some (.own x)) (k : ∀ b u, b ≠ e → h.get? b = some u → h'.get? b = some u) (heo : ∃ u, h'.get? e = some u) : Un fs ex H (upd H x o) h h' := by
  have hx : ∀ b, H b = none → b ≠ x := fun b n z => by subst z; rw [n] at mu; exact mu
  have hb : ∀ b, H b = none → b ≠ e := fun b n z => by
    subst z
    rcases he with r | r
    · exact hx b n r
    · rw [n] at r; cases r
  have hm : ∀ b u, H b = some u → ¬ Mut (some u) → b ≠ x := fun b u q nm z => by subst z; rw [q] at mu; exact nm mu
  refine ⟨fun b u q n _ _ => k b u (hb b n) q, fun b u q n _ _ => ⟨u.slots, k b u (hb b n) q⟩, fun b u q n _ => by rw [upd_ne (hx b n)]; exact n, fun b u q _ => ?_,
    fun b xs q => by rw [upd_ne (hm b _ q fun z => z)]; exact q, fun b u xs q => by rw [upd_ne (hm b _ q fun z => z)]; exact q, fun b ps q => ⟨#[], by rw [upd_ne (hm b _ q fun z => z), q]; simp⟩⟩
  by_cases hbe : b = e
  · subst hbe; exact heo
  · exact ⟨u, k b u hbe q⟩
end
def trk (h : Heap) (H : Hp) : List Addr := (List.range h.objs.size).filter fun a => (H a).isSome
def hidT (h : Heap) (H : Hp) : Heap := PySem.W.hideAll h (trk h H)
theorem hidT_size (h : Heap) (H : Hp) : (hidT h H).objs.size = h.objs.size := PySem.W.hideAll_size _ _
theorem hidT_get {h : Heap} {H : Hp} {b : Addr} {o : Obj} (e : h.get? b = some o) (n : H b = none) : (hidT h H).get? b = some o :=
  PySem.W.hideAll_get _ e fun hm => by
    have q : (H b).isSome = true := (List.mem_filter.mp hm).2
    rw [n] at q; simp at q
theorem of_hidT {h : Heap} {H : Hp} {b : Addr} {o : Obj} (e : (hidT h H).get? b = some o) : h.get? b = some o ∧ H b = none := by
  have e' : h.get? b = some o := PySem.W.of_hideAll (trk h H) e
  refine ⟨e', ?_⟩
  cases q : H b with
  | none => rfl
  | some x =>
    have hm : b ∈ trk h H := List.mem_filter.mpr ⟨List.mem_range.mpr (Heap.lt_size e'), by simp [q]⟩
    have z : (hidT h H).get? b = none := PySem.W.hideAll_none (trk h H) hm
    rw [z] at e; cases e
end L2
namespace L2
open PySem PySem.Spec PyProof.Rows
structure Mod (K : PySem.W.Frag) (mg : Str → Option Value) (base : Heap) : Prop where
  kin : K.In base
  glob : base.Ns mainGlobals mg
  blt : ∃ mb, base.Ns builtinsNs mb ∧ ∀ x : Str, x ≠ "__name__" → mb x = bootBuiltins x
  nolimit : base.NoLimit
structure Cx where
  prog : Program
  w : World
  K : PySem.W.Frag
  mg : Str → Option Value
  base : Heap
  A : Around
  N : List Str
  s₀ : Shared
  H₀ : Hp
  env : Env
  outer : List Env
  stack : List Env
  ex : List Addr
  fn : Str → Bool
  calm : Bool
  pn : List (Addr × Obj)
  xe : Value → Shared → Prop
def frs (l : List Env) : List Addr := l.filterMap (·.frame)
abbrev Cx.fs (X : Cx) : List Addr := frs X.outer
def Vis (sc : Scope) (x : Str) : Prop := sc.names.lookup x = some .local ∨ sc.names.lookup x = some .cell ∨ sc.names.lookup x = some .free
def Loc (sc : Scope) (x : Str) : Prop := sc.names.lookup x = some .local ∨ sc.names.lookup x = some .cell
def Look (env : Env) (h : Heap) (m : Str → Option Value) (x : Str) (u : Value) : Prop :=
  (env.kindOf x = some .local ∧ m x = some u) ∨ ((env.kindOf x = some .cell ∨ env.kindOf x = some .free) ∧ ∃ c, env.cells.lookup x = some c ∧ h.IsCell c (some u))
structure Cx.Ok (X : Cx) : Prop where
  mod : Mod X.K X.mg X.base
  kind : X.env.scope.kind = .function
  glob : X.env.globals = mainGlobals
  blt : X.env.builtins = builtinsNs
  above : X.s₀.heap.objs.size ≤ X.env.locals
  inj : ∀ x y c, X.env.cells.lookup x = some c → X.env.cells.lookup y = some c → x = y
  has : ∀ x, (X.env.kindOf x = some .cell ∨ X.env.kindOf x = some .free) → ∃ c, X.env.cells.lookup x = some c
  cab : ∀ x c, X.fn x = true → X.env.cells.lookup x = some c → X.s₀.heap.objs.size ≤ c
  hd : X.calm = true → X.A.handled = none
  frames : X.A.frames = some X.stack
  stk : X.stack = X.outer ∨ (X.stack = X.env :: X.outer ∧ X.env.frame = some X.env.locals)
  exf : ∀ b ∈ X.ex, b ≠ X.env.locals ∧ ∀ x c, X.env.cells.lookup x = some c → c ≠ b
  bs : ∀ b o, X.base.get? b = some o → X.s₀.heap.get? b = some o ∧ X.H₀ b = none
  bsz : X.base.objs.size ≤ X.s₀.heap.objs.size
  noex : ∀ b o, X.base.get? b = some o → b ∉ X.ex
  exfs : ∀ b ∈ X.ex, b ∉ X.fs
  funs : X.s₀.heap.FunFrames X.base X.outer
  frf : ∀ b ∈ X.fs, X.H₀ b = none
structure Inv (X : Cx) (pins : List (Addr × Obj)) (σ : List (Option V)) (H : Hp) (s : Shared) : Prop where
  ok : X.Ok
  os : s.os = X.s₀.os
  bare : AllBare s.gens
  base : Un X.fs X.ex X.H₀ H X.s₀.heap s.heap
  loc : ∃ m, s.heap.Ns X.env.locals m ∧ ∀ (i : Nat) (x : Str) (v : V), X.N[i]? = some x → σ[i]? = some (some v) → Vis X.env.scope x → ∃ u, RelV v u ∧ Look X.env s.heap m x u
  cell : ∀ x c, X.env.cells.lookup x = some c → ∃ v, s.heap.IsCell c v
  free : H X.env.locals = none
  freeC : ∀ x c, X.env.cells.lookup x = some c → H c = none
  pin : ∀ p ∈ X.pn ++ pins, s.heap.get? p.1 = some p.2 ∧ H p.1 = none ∧ p.1 ≠ X.env.locals ∧ p.1 ∉ X.fs ∧ ∀ v, p.2.data ≠ .cell v
  hok : HOk X.prog X.w H s.heap
  len : σ.length = X.N.length
section
variable {X : Cx} {pins : List (Addr × Obj)} {σ : List (Option V)} {H H' : Hp} {s : Shared} {h' : Heap}
theorem Cx.Ok.nofr (ok : X.Ok) {b : Addr} {o : Obj} (e : X.base.get? b = some o) : b ∉ X.fs := fun hb => by
  have := (ok.funs.mem hb).1
  rw [e] at this; cases this
theorem Inv.bs (I : Inv X pins σ H s) : ∀ b o, X.base.get? b = some o → s.heap.get? b = some o ∧ H b = none := fun b o e =>
  ⟨I.base.keep b o (I.ok.bs b o e).1 (I.ok.bs b o e).2 (I.ok.nofr e) (I.ok.noex b o e), I.base.free b o (I.ok.bs b o e).1 (I.ok.bs b o e).2 (I.ok.noex b o e)⟩
theorem Inv.bk (I : Inv X pins σ H s) : ∀ b o, X.base.get? b = some o → s.heap.get? b = some o := fun b o e => (I.bs b o e).1
theorem Inv.mod (I : Inv X pins σ H s) : Mod X.K X.mg X.base := I.ok.mod
theorem Inv.kIn (I : Inv X pins σ H s) : X.K.In s.heap := I.ok.mod.kin.keeps I.bk
theorem Inv.lt (I : Inv X pins σ H s) : X.env.locals < s.heap.objs.size := let ⟨_, hn, _⟩ := I.loc; hn.lt
theorem Inv.sz (I : Inv X pins σ H s) : X.s₀.heap.objs.size ≤ s.heap.objs.size := Nat.le_trans I.ok.above (Nat.le_of_lt I.lt)
theorem Inv.nofs (I : Inv X pins σ H s) {a : Addr} (h : s.heap.objs.size ≤ a) : a ∉ X.fs := fun hb => by
  obtain ⟨_, o, ho, _⟩ := I.ok.funs.mem hb
  exact absurd (Nat.lt_of_lt_of_le (Heap.lt_size ho) (Nat.le_trans I.sz h)) (Nat.lt_irrefl _)
theorem Inv.cne (I : Inv X pins σ H s) : ∀ x c, X.env.cells.lookup x = some c → c ≠ X.env.locals := fun x c e z => by
  obtain ⟨v, o, ho, hd⟩ := I.cell x c e
  obtain ⟨m, ⟨o', es, ep, ho', hd', _⟩, _⟩ := I.loc
  rw [z, ho'] at ho; cases ho; rw [hd'] at hd; cases hd
theorem Inv.funs (I : Inv X pins σ H s) : s.heap.FunFrames X.base X.outer := by
  have all : ∀ (l : List Env), (∀ b ∈ frs l, b ∈ X.fs) → X.s₀.heap.FunFrames X.base l → s.heap.FunFrames X.base l := by
    intro l
    induction l with
    | nil => intro _ _; trivial
    | cons env r ih =>
      intro hs hl
      obtain ⟨hk, ⟨L, o, hf, hn, ho, hd⟩, hr⟩ := hl
      have hL : L ∈ X.fs := hs L (by unfold frs; rw [List.filterMap_cons, hf]; exact List.mem_cons_self)
      obtain ⟨sl, e⟩ := I.base.slot L o ho (I.ok.frf L hL) hL fun z => I.ok.exfs L z hL
      exact ⟨hk, ⟨L, _, hf, hn, e, hd⟩, ih (fun b hb => hs b (by unfold frs; rw [List.filterMap_cons, hf]; exact List.mem_cons_of_mem _ hb)) hr⟩
  exact all X.outer (fun _ hb => hb) I.ok.funs
theorem Inv.stack (I : Inv X pins σ H s) : s.heap.FunFrames X.base X.stack := by
  rcases I.ok.stk with e | ⟨e, hf⟩
  · rw [e]; exact I.funs
  · rw [e]
    obtain ⟨m, hn, _⟩ := I.loc
    refine .cons (by rw [I.ok.kind]; decide) hf hn ?_ I.funs
    exact Heap.get?_none_of_le (Nat.le_trans I.ok.bsz I.ok.above)
theorem Inv.stkSub (I : Inv X pins σ H s) : ∀ b ∈ frs X.stack, b ∈ X.env.locals :: X.fs := fun b hb => by
  rcases I.ok.stk with e | ⟨e, hf⟩
  · rw [e] at hb; exact List.mem_cons_of_mem _ hb
  · rw [e] at hb
    unfold frs at hb
    rw [List.filterMap_cons, hf] at hb
    exact hb
theorem Inv.stkFree (I : Inv X pins σ H s) : ∀ b ∈ frs X.stack, H b = none := fun b hb => by
  rcases List.mem_cons.mp (I.stkSub b hb) with e | hb
  · rw [e]; exact I.free
  · obtain ⟨_, o, ho, _⟩ := I.ok.funs.mem hb
    exact I.base.free b o ho (I.ok.frf b hb) fun z => I.ok.exfs b z hb
theorem Inv.step {g' : Array GenState} {t' : Nat} {d' : Drawn} {ch : List Addr} (I : Inv X pins σ H s)
    (hch : ∀ b ∈ ch, (b ∈ X.ex ∨ X.s₀.heap.objs.size ≤ b) ∧ b ≠ X.env.locals ∧ (∀ x c, X.env.cells.lookup x = some c → c ≠ b) ∧ ∀ p ∈ X.pn ++ pins, p.1 ≠ b)
    (keep : ∀ b o, b ≠ X.env.locals → b ∉ X.fs → b ∉ ch → s.heap.get? b = some o → H b = none → h'.get? b = some o)
    (slot : ∀ b o, b ≠ X.env.locals → b ∈ X.fs → b ∉ ch → s.heap.get? b = some o → H b = none → ∃ sl, h'.get? b = some { o with slots := sl }) (free : ∀ b o, b ∉ ch → s.heap.get? b = some o → H b = none → H' b = none)
    (there : ∀ b o, b ∉ ch → s.heap.get? b = some o → ∃ o', h'.get? b = some o')
    (tups : ∀ b xs, H b = some (.tup xs) → H' b = some (.tup xs)) (frzs : ∀ b o u, H b = some (.frz o u) → H' b = some (.frz o u)) (tbls : ∀ b ps, H b = some (.tbl ps) → ∃ more, H' b = some (.tbl (ps ++ more)))
    (ns : ∀ m, s.heap.Ns X.env.locals m → h'.Ns X.env.locals m) (hok : HOk X.prog X.w H' h') (hg : AllBare g') :
    Inv X pins σ H' { s with heap := h', gens := g', drawn := d', toks := t' } := by
  have neL : ∀ b o, X.s₀.heap.get? b = some o → b ≠ X.env.locals := fun b o e => Nat.ne_of_lt (Nat.lt_of_lt_of_le (Heap.lt_size e) I.ok.above)
  have neC : ∀ b o, X.s₀.heap.get? b = some o → b ∉ X.ex → b ∉ ch := fun b o e hx hb => by
    rcases (hch b hb).1 with z | z
    · exact hx z
    · exact absurd (Nat.lt_of_lt_of_le (Heap.lt_size e) z) (Nat.lt_irrefl _)
  have cellK : ∀ x c, X.env.cells.lookup x = some c → ∀ v, s.heap.IsCell c v → h'.IsCell c v := fun x c e v ⟨o, ho, hd⟩ => by
    have nch : c ∉ ch := fun z => (hch c z).2.2.1 x c e rfl
    by_cases hc : c ∈ X.fs
    · obtain ⟨sl, q⟩ := slot c o (I.cne x c e) hc nch ho (I.freeC x c e)
      exact ⟨_, q, hd⟩
    · exact ⟨o, keep c o (I.cne x c e) hc nch ho (I.freeC x c e), hd⟩
  refine ⟨I.ok, I.os, hg, ⟨fun b o e n hb hx => ?_, fun b o e n hb hx => ?_, fun b o e n hx => ?_, fun b o e hx => ?_, fun b xs e => tups b xs (I.base.tups b xs e), fun b o xs e => frzs b o xs (I.base.frzs b o xs e), fun b ps e => ?_⟩, ?_, fun x c e => ?_, ?_, fun x c e => ?_, fun p hp => ?_, hok, I.len⟩
  · exact keep b o (neL b o e) hb (neC b o e hx) (I.base.keep b o e n hb hx) (I.base.free b o e n hx)
  · obtain ⟨sl, e1⟩ := I.base.slot b o e n hb hx
    obtain ⟨sl', e2⟩ := slot b _ (neL b o e) hb (neC b o e hx) e1 (I.base.free b o e n hx)
    exact ⟨sl', e2⟩
  · obtain ⟨o', e1⟩ := I.base.there b o e hx
    exact free b o' (neC b o e hx) e1 (I.base.free b o e n hx)
  · obtain ⟨o', e1⟩ := I.base.there b o e hx
    exact there b o' (neC b o e hx) e1
  · obtain ⟨m1, e1⟩ := I.base.tbls b ps e
    obtain ⟨m2, e2⟩ := tbls b _ e1
    exact ⟨m1 ++ m2, by rw [e2, Array.append_assoc]⟩
  · obtain ⟨m, hn, hl⟩ := I.loc
    refine ⟨m, ns m hn, fun i x v e1 e2 e3 => ?_⟩
    obtain ⟨u, r, l⟩ := hl i x v e1 e2 e3
    refine ⟨u, r, ?_⟩
    rcases l with l | ⟨k, c, e, z⟩
    · exact .inl l
    · exact .inr ⟨k, c, e, cellK x c e _ z⟩
  · obtain ⟨v, z⟩ := I.cell x c e
    exact ⟨v, cellK x c e v z⟩
  · obtain ⟨m, ⟨o, _, _, ho, _⟩, _⟩ := I.loc
    exact free _ o (fun z => (hch _ z).2.1 rfl) ho I.free
  · obtain ⟨v, o, ho, hd⟩ := I.cell x c e
    exact free c o (fun z => (hch c z).2.2.1 x c e rfl) ho (I.freeC x c e)
  · obtain ⟨e, n, ne, nf, d⟩ := I.pin p hp
    have nch : p.1 ∉ ch := fun z => (hch p.1 z).2.2.2 p hp rfl
    exact ⟨keep p.1 p.2 ne nf nch e n, free p.1 p.2 nch e n, ne, nf, d⟩
theorem Inv.un {t' : Nat} (I : Inv X pins σ H s) (u : Un X.fs [] H H' s.heap h') (hok : HOk X.prog X.w H' h') : Inv X pins σ H' { s with heap := h', toks := t' } := by
  obtain ⟨m, ⟨o, es, ep, ho, r⟩, _⟩ := id I.loc
  obtain ⟨sl, hL⟩ := u.any ho I.free (by simp)
  exact I.step (g' := s.gens) (d' := s.drawn) (ch := []) (fun _ z => nomatch z) (fun b o _ hb _ e n => u.keep b o e n hb (by simp)) (fun b o _ hb _ e n => u.slot b o e n hb (by simp)) (fun b o _ e n => u.free b o e n (by simp)) (fun b o _ e => u.there b o e (by simp)) u.tups u.frzs u.tbls (fun m' hm => by
    obtain ⟨o', es', ep', ho', r'⟩ := hm
    rw [ho] at ho'; cases ho'
    exact ⟨_, es', ep', hL, r'⟩) hok I.bare
theorem Inv.call {g' : Array GenState} {t' : Nat} {d' : Drawn} {ch : List Addr} (I : Inv X pins σ H s) (u : Un (frs X.stack) ch H H' s.heap h') (hok : HOk X.prog X.w H' h') (hg : AllBare g')
    (hch : ∀ b ∈ ch, (b ∈ X.ex ∨ X.s₀.heap.objs.size ≤ b) ∧ b ≠ X.env.locals ∧ (∀ x c, X.env.cells.lookup x = some c → c ≠ b) ∧ ∀ p ∈ X.pn ++ pins, p.1 ≠ b) :
    Inv X pins σ H' { s with heap := h', gens := g', drawn := d', toks := t' } := by
  obtain ⟨m, ⟨o, es, ep, ho, r⟩, _⟩ := id I.loc
  obtain ⟨sl, hL⟩ := u.any ho I.free fun z => (hch _ z).2.1 rfl
  exact I.step (ch := ch) hch (fun b o hL hb hc e n => u.keep b o e n (fun z => (List.mem_cons.mp (I.stkSub b z)).elim hL hb) hc) (fun b o _ _ hc e n => u.any e n hc) (fun b o hc e n => u.free b o e n hc) (fun b o hc e => u.there b o e hc) u.tups u.frzs u.tbls (fun m' hm => by
    obtain ⟨o', es', ep', ho', r'⟩ := hm
    rw [ho] at ho'; cases ho'
    exact ⟨_, es', ep', hL, r'⟩) hok hg
theorem Inv.turned {t' : Nat} {it : Addr} (I : Inv X pins σ H s) (k : ∀ b o, b ≠ it → s.heap.get? b = some o → h'.get? b = some o) (hn : H it = none) (hL : it ≠ X.env.locals)
    (h1 : it ∈ X.ex ∨ X.s₀.heap.objs.size ≤ it) (h2 : ∀ x c, X.env.cells.lookup x = some c → c ≠ it) (h3 : ∀ p ∈ X.pn ++ pins, p.1 ≠ it) : Inv X pins σ H { s with heap := h', toks := t' } := by
  have nit : ∀ b u, H b = some u → b ≠ it := fun b u e z => by rw [z, hn] at e; cases e
  refine I.step (g' := s.gens) (d' := s.drawn) (ch := [it]) (fun b hb => ?_) (fun b o _ _ hc e _ => k b o (fun z => hc (by simp [z])) e) (fun b o _ _ hc e _ => ⟨o.slots, k b o (fun z => hc (by simp [z])) e⟩) (fun _ _ _ _ n => n)
    (fun b o hc e => ⟨o, k b o (fun z => hc (by simp [z])) e⟩) (fun _ _ e => e) (fun _ _ _ e => e) (fun b ps e => ⟨#[], by rw [e]; simp⟩) (fun m hm => ?_) (fun b u e => ?_) I.bare
  · have e : b = it := by simpa using hb
    subst e
    exact ⟨h1, hL, h2, h3⟩
  · obtain ⟨o, es, ep, ho, r⟩ := hm
    exact ⟨o, es, ep, k _ o (Ne.symm hL) ho, r⟩
  · refine (I.hok b u e).stay (fun c v hc q => k c v ?_ q) (fun _ q => q) fun _ _ q => q
    rcases hc with z | z
    · rw [z]; exact nit b u e
    · exact nit c _ z
theorem Inv.tok (I : Inv X pins σ H s) (t : Nat) : Inv X pins σ H { s with toks := t } := I.un (h' := s.heap) (t' := t) Un.refl I.hok
theorem Inv.kept {t' : Nat} (I : Inv X pins σ H s) (k : ∀ b u, s.heap.get? b = some u → h'.get? b = some u) : Inv X pins σ H { s with heap := h', toks := t' } := I.un (Un.kept k) (I.hok.kept k)
theorem Inv.laid {a : Addr} {o : HO} {t' : Nat} (I : Inv X pins σ H s) (k : ∀ b u, s.heap.get? b = some u → h'.get? b = some u) (hp : s.heap.objs.size ≤ a) (new : ObjOk X.prog X.w (upd H a o) h' a o) :
    Inv X pins σ (upd H a o) { s with heap := h', toks := t' } := I.un (Un.laid k hp (I.hok.fresh hp)) (I.hok.laid k hp new)
theorem Inv.write {x e : Addr} {o : HO} {t' : Nat} (I : Inv X pins σ H s) (mu : Mut (H x)) (he : e = x ∨ H e = some (.own x)) (k : ∀ b u, b ≠ e → s.heap.get? b = some u → h'.get? b = some u) (heo : ∃ u, h'.get? e = some u)
    (new : ObjOk X.prog X.w (upd H x o) h' x o) : Inv X pins σ (upd H x o) { s with heap := h', toks := t' } := I.un (Un.write mu he k heo) (I.hok.write mu he k heo new)
theorem Inv.pins_of {pins' : List (Addr × Obj)} (I : Inv X pins σ H s) (h : ∀ p ∈ pins', s.heap.get? p.1 = some p.2 ∧ H p.1 = none ∧ p.1 ≠ X.env.locals ∧ p.1 ∉ X.fs ∧ ∀ v, p.2.data ≠ .cell v) : Inv X pins' σ H s :=
  ⟨I.ok, I.os, I.bare, I.base, I.loc, I.cell, I.free, I.freeC, fun p hp => (List.mem_append.mp hp).elim (fun z => I.pin p (List.mem_append_left _ z)) (h p), I.hok, I.len⟩
theorem nodup_ix {N : List Str} (hN : N.Nodup) {i j : Nat} {x : Str} (a : N[i]? = some x) (b : N[j]? = some x) : i = j := by
  obtain ⟨h1, e1⟩ := List.getElem?_eq_some_iff.mp a
  obtain ⟨h2, e2⟩ := List.getElem?_eq_some_iff.mp b
  exact (List.getElem_inj hN).mp (e1.trans e2.symm)
theorem store_ok2 {M : Model} {A : Around} {E : Value → Shared → Prop} {i : Nat} {x : Str} {v : V} {u : Value} {Q : Unit → Shared → Prop} (I : Inv X pins σ H s) (hN : X.N.Nodup) (hi : X.N[i]? = some x) (hx : Loc X.env.scope x) (r : RelV v u)
    (h : ∀ s', Inv X pins (σ.set i (some v)) H s' → (∃ a, Heap.SameBut a s.heap s'.heap ∧ (a = X.env.locals ∨ X.env.cells.lookup x = some a)) → Q () s') (hf : X.fn x = true ∨ X.env.scope.names.lookup x = some .local := by first | exact .inl rfl | exact .inr rfl | assumption) : wpAny M A (storeName X.env x u) Q E s := by
  obtain ⟨m, hn, hl⟩ := id I.loc
  have hcls : (X.env.scope.kind == .class || (X.env.scope.kind == .module && X.env.locals != X.env.globals)) = false := by rw [I.ok.kind]; rfl
  have hiσ : i < σ.length := by rw [I.len]; exact (List.getElem?_eq_some_iff.mp hi).1
  have cne := I.cne
  have tracked : ∀ {a : Addr} {h' : Heap}, (∃ o, s.heap.get? a = some o ∧ H a = none) → Heap.SameBut a s.heap h' → HOk X.prog X.w H h' := fun {a h'} ha hs b ob e => by
    obtain ⟨_, _, hfree⟩ := ha
    refine (I.hok b ob e).stay (fun c w' hc q => (hs.2 c ?_).trans q) (fun _ q => q) fun _ _ q => q
    rintro rfl
    rcases hc with rfl | hc
    · rw [hfree] at e; cases e
    · rw [hfree] at hc; cases hc
  rcases hx with hk | hk
  · refine wpAny_storeName_local hk hn (fun h' hn' hs => ?_) hcls
    obtain ⟨oL, _, _, hoL, _⟩ := id hn
    refine h _ ⟨I.ok, I.os, I.bare, ⟨fun b o e n hb hx => ?_, fun b o e n hb hx => ?_, I.base.free, fun b o e hx => ?_, I.base.tups, I.base.frzs, I.base.tbls⟩, ⟨_, hn', fun j y v' e1 e2 e3 => ?_⟩, fun y c e => ?_, I.free, I.freeC, fun p hp => ?_, tracked ⟨oL, hoL, I.free⟩ hs, by simpa using I.len⟩ ⟨_, hs, .inl rfl⟩
    · exact (hs.2 b (Nat.ne_of_lt (Nat.lt_of_lt_of_le (Heap.lt_size e) I.ok.above))).trans (I.base.keep b o e n hb hx)
    · obtain ⟨sl, e1⟩ := I.base.slot b o e n hb hx
      exact ⟨sl, (hs.2 b (Nat.ne_of_lt (Nat.lt_of_lt_of_le (Heap.lt_size e) I.ok.above))).trans e1⟩
    · obtain ⟨o', e1⟩ := I.base.there b o e hx
      exact ⟨o', (hs.2 b (Nat.ne_of_lt (Nat.lt_of_lt_of_le (Heap.lt_size e) I.ok.above))).trans e1⟩
    · by_cases hj : j = i
      · subst hj
        rw [hi] at e1; cases e1
        rw [List.getElem?_set_self hiσ] at e2
        cases e2
        exact ⟨u, r, .inl ⟨hk, by simp⟩⟩
      · rw [List.getElem?_set_ne (Ne.symm hj)] at e2
        obtain ⟨u', r', q⟩ := hl j y v' e1 e2 e3
        refine ⟨u', r', ?_⟩
        rcases q with ⟨k, e⟩ | ⟨k, c, e, z⟩
        · refine .inl ⟨k, ?_⟩
          have : y ≠ x := fun e => hj (nodup_ix hN e1 (e ▸ hi))
          simp [this, e]
        · exact .inr ⟨k, c, e, z.sameBut hs (cne y c e)⟩
    · obtain ⟨w', z⟩ := I.cell y c e
      exact ⟨w', z.sameBut hs (cne y c e)⟩
    · obtain ⟨e, n, ne, nf, d⟩ := I.pin p hp
      exact ⟨(hs.2 p.1 ne).trans e, n, ne, nf, d⟩
  · have hfn : X.fn x = true := by
      rcases hf with z | z
      · exact z
      · rw [z] at hk; cases hk
    obtain ⟨c, hc⟩ := I.ok.has x (.inl hk)
    obtain ⟨w', z⟩ := I.cell x c hc
    refine wpAny_storeName_cell I.ok.kind hk hc z (fun h' hc' hs => ?_)
    obtain ⟨oc, hoc, hocd⟩ := id z
    refine h { s with heap := h' } ⟨I.ok, I.os, I.bare, ⟨fun b o e n hb hx => ?_, fun b o e n hb hx => ?_, I.base.free, fun b o e hx => ?_, I.base.tups, I.base.frzs, I.base.tbls⟩, ⟨m, hn.sameBut hs (Ne.symm (cne x c hc)), fun j y v' e1 e2 e3 => ?_⟩, fun y c' e => ?_, I.free, I.freeC, fun p hp => ?_, tracked ⟨oc, hoc, I.freeC x c hc⟩ hs, by simpa using I.len⟩ ⟨c, hs, .inr hc⟩
    · exact (hs.2 b (Nat.ne_of_lt (Nat.lt_of_lt_of_le (Heap.lt_size e) (I.ok.cab x c hfn hc)))).trans (I.base.keep b o e n hb hx)
    · obtain ⟨sl, e1⟩ := I.base.slot b o e n hb hx
      exact ⟨sl, (hs.2 b (Nat.ne_of_lt (Nat.lt_of_lt_of_le (Heap.lt_size e) (I.ok.cab x c hfn hc)))).trans e1⟩
    · obtain ⟨o', e1⟩ := I.base.there b o e hx
      exact ⟨o', (hs.2 b (Nat.ne_of_lt (Nat.lt_of_lt_of_le (Heap.lt_size e) (I.ok.cab x c hfn hc)))).trans e1⟩
    · by_cases hj : j = i
      · subst hj
        rw [hi] at e1; cases e1
        rw [List.getElem?_set_self hiσ] at e2
        cases e2
        exact ⟨u, r, .inr ⟨.inl hk, c, hc, hc'⟩⟩
      · rw [List.getElem?_set_ne (Ne.symm hj)] at e2
        obtain ⟨u', r', q⟩ := hl j y v' e1 e2 e3
        refine ⟨u', r', ?_⟩
        rcases q with q | ⟨k, c', e, z'⟩
        · exact .inl q
        · refine .inr ⟨k, c', e, z'.sameBut hs ?_⟩
          rintro rfl
          exact hj (nodup_ix hN e1 (I.ok.inj _ _ _ e hc ▸ hi))
    · by_cases hcc : c' = c
      · subst hcc; exact ⟨_, hc'⟩
      · obtain ⟨w2, z2⟩ := I.cell y c' e
        exact ⟨w2, z2.sameBut hs hcc⟩
    · obtain ⟨e, n, ne, nf, d⟩ := I.pin p hp
      refine ⟨(hs.2 p.1 ?_).trans e, n, ne, nf, d⟩
      intro q
      rw [q, hoc] at e
      have q' : oc = p.2 := Option.some.inj e
      exact d w' (by rw [← q']; exact hocd)
theorem store_ok {M : Model} {A : Around} {E : Value → Shared → Prop} {i : Nat} {x : Str} {v : V} {u : Value} {Q : Unit → Shared → Prop} (I : Inv X pins σ H s) (hN : X.N.Nodup) (hi : X.N[i]? = some x) (hx : Loc X.env.scope x) (r : RelV v u)
    (h : ∀ s', Inv X pins (σ.set i (some v)) H s' → Q () s') (hf : X.fn x = true ∨ X.env.scope.names.lookup x = some .local := by first | exact .inl rfl | exact .inr rfl | assumption) : wpAny M A (storeName X.env x u) Q E s :=
  store_ok2 I hN hi hx r (fun s' I' _ => h s' I') hf
theorem Inv.call' {s' : Shared} {ch : List Addr} (I : Inv X pins σ H s) (ho : s'.os = s.os) (u : Un (frs X.stack) ch H H' s.heap s'.heap) (hok : HOk X.prog X.w H' s'.heap) (hg : AllBare s'.gens)
    (hch : ∀ b ∈ ch, (b ∈ X.ex ∨ X.s₀.heap.objs.size ≤ b) ∧ b ≠ X.env.locals ∧ (∀ x c, X.env.cells.lookup x = some c → c ≠ b) ∧ ∀ p ∈ X.pn ++ pins, p.1 ≠ b) : Inv X pins σ H' s' := by
  obtain ⟨h', g', d', t', o'⟩ := s'
  have e : o' = s.os := ho
  subst e
  exact I.call (g' := g') (t' := t') (d' := d') u hok hg hch
end
abbrev XK := Value → Option Addr → Hp → Prop
abbrev St := List (Option V)
abbrev VK := V → Hp → Prop
abbrev TE := St → Hp → VK → Prop
abbrev TT := St → Hp → (Bool → Hp → Prop) → Prop
abbrev TA := St → Hp → (List V → Hp → Prop) → Prop
structure Ends where
  nx : St → Hp → Prop
  rt : VK
  bk : St → Hp → Prop := fun _ _ => False
  ct : St → Hp → Prop := fun _ _ => False
abbrev TS := Ends → St → Hp → Prop
def EP (X : Cx) (pins : List (Addr × Obj)) (σ : St) (Q : VK) (u : Value) (s' : Shared) : Prop := ∃ v H', Inv X pins σ H' s' ∧ RelV v u ∧ Q v H'
def TP (X : Cx) (pins : List (Addr × Obj)) (σ : St) (Q : Bool → Hp → Prop) (b : Bool) (s' : Shared) : Prop := ∃ H', Inv X pins σ H' s' ∧ Q b H'
def AP (X : Cx) (pins : List (Addr × Obj)) (σ : St) (Q : List V → Hp → Prop) (us : List Value) (s' : Shared) : Prop := ∃ vs H', Inv X pins σ H' s' ∧ Vals vs us ∧ Q vs H'
def SP (X : Cx) (pins : List (Addr × Obj)) (D : Ends) (f : Flow) (s' : Shared) : Prop :=
  match f with
  | .next => ∃ σ' H', Inv X pins σ' H' s' ∧ D.nx σ' H'
  | .brk => ∃ σ' H', Inv X pins σ' H' s' ∧ D.bk σ' H'
  | .cont => ∃ σ' H', Inv X pins σ' H' s' ∧ D.ct σ' H'
  | .ret u => ∃ v σ' H', Inv X pins σ' H' s' ∧ RelV v u ∧ D.rt v H'
def PE (X : Cx) (e : Expr) (t : TE) : Prop :=
  ∀ (pins : List (Addr × Obj)) (s : Shared) (σ : St) (H : Hp) (Q : VK), Inv X pins σ H s → t σ H Q → wpAny (model X.prog X.w) X.A (eval e X.env) (EP X pins σ Q) X.xe s
def PT (X : Cx) (e : Expr) (t : TT) : Prop :=
  ∀ (pins : List (Addr × Obj)) (s : Shared) (σ : St) (H : Hp) (Q : Bool → Hp → Prop), Inv X pins σ H s → t σ H Q → wpAny (model X.prog X.w) X.A (isTrue e X.env (eval e X.env)) (TP X pins σ Q) X.xe s
def PW (X : Cx) (e : Expr) (t : TT) : Prop :=
  ∀ (whole : Sem Value) (pins : List (Addr × Obj)) (s : Shared) (σ : St) (H : Hp) (Q : Bool → Hp → Prop), Inv X pins σ H s → t σ H Q → wpAny (model X.prog X.w) X.A (isTrue e X.env whole) (TP X pins σ Q) X.xe s
theorem PW.pt {X : Cx} {e : Expr} {t : TT} (h : PW X e t) : PT X e t := h _
def PA (X : Cx) (es : List Expr) (t : TA) : Prop :=
  ∀ (pos : Pos) (pins : List (Addr × Obj)) (s : Shared) (σ : St) (H : Hp) (Q : List V → Hp → Prop), Inv X pins σ H s → t σ H Q → wpAny (model X.prog X.w) X.A (spliced (backTo pos (starEach es X.env))) (AP X pins σ Q) X.xe s
def PS (X : Cx) (st : Stmt) (t : TS) : Prop :=
  ∀ (pins : List (Addr × Obj)) (s : Shared) (σ : St) (H : Hp) (D : Ends), Inv X pins σ H s → t D σ H → wpAny (model X.prog X.w) X.A (exec st X.env) (SP X pins D) X.xe s
def PSs (X : Cx) (st : List Stmt) (t : TS) : Prop :=
  ∀ (pins : List (Addr × Obj)) (s : Shared) (σ : St) (H : Hp) (D : Ends), Inv X pins σ H s → t D σ H → wpAny (model X.prog X.w) X.A (execs st X.env) (SP X pins D) X.xe s
theorem thn {α : Type} {t : Sem α} {Q Q' : α → Shared → Prop} {M : Model} {A : Around} {E : Value → Shared → Prop} {s : Shared} (h : wpAny M A t Q E s) (hQ : ∀ a s, Q a s → Q' a s) : wpAny M A t Q' E s := wpAny_mono h hQ fun _ _ x => x
end L2
namespace L2
open PySem PySem.Spec PyProof.Rows
section
variable {X : Cx}
def tVar (i : Nat) : TE := fun σ H Q => ∃ v, σ[i]? = some (some v) ∧ Q v H
def tC (v : V) : TE := fun _ H Q => Q v H
theorem pe_var {i : Nat} {x : Str} {pos : Pos} (hN : X.N[i]? = some x) (hv : Vis X.env.scope x) (hd : (x == ("__debug__" : Str)) = false := by decide) (hcd : (x == ("__classdict__" : Str)) = false := by decide) : PE X (.Name x pos) (tVar i) := by
  intro pins s σ H Q I h
  obtain ⟨v, e, h⟩ := h
  obtain ⟨m, hn, hl⟩ := I.loc
  obtain ⟨u, r, l⟩ := hl i x v hN e hv
  have fin : EP X pins σ Q u s := ⟨v, H, I, r, h⟩
  rcases l with ⟨hk, hm⟩ | ⟨hk, c, hc, hcell⟩
  · exact wpAny_Name (wpAny_loadName_local I.ok.kind hk hn hm fin) hd
  · rcases hk with hk | hk
    · exact wpAny_Name (wpAny_loadName_cell I.ok.kind hk hc hcell fin) hd
    · exact wpAny_Name (wpAny_loadName_free I.ok.kind hk hc hcell fin hcd) hd
theorem pe_int {i j pos} : PE X (.Constant (.int i) j pos) (tC (.int i)) := fun _ _ _ H _ I h => wpAny_Constant_int ⟨.int i, H, I.tok _, ⟨_, rfl⟩, h⟩
theorem pe_bl {b j pos} : PE X (.Constant (.bool b) j pos) (tC (.bl b)) := fun _ _ _ H _ I h => Constant_bool ⟨.bl b, H, I, rfl, h⟩
theorem pe_str {x j pos} : PE X (.Constant (.str x) j pos) (tC (.str x)) := fun _ _ _ H _ I h => Calls.Constant_str ⟨.str x, H, I.tok _, ⟨_, rfl⟩, h⟩
def Gl (X : Cx) (x : Str) : Prop := X.env.kindOf x = some .globalImplicit
theorem ld_glob {E : Value → Shared → Prop} {pins : List (Addr × Obj)} {s : Shared} {σ : St} {H : Hp} {x : Str} {u : Value} {pos : Pos} {Q : Value → Shared → Prop} (I : Inv X pins σ H s) (hg : Gl X x) (hm : X.mg x = some u) (h : Q u s)
    (hd : (x == ("__debug__" : Str)) = false := by decide) : wpAny (model X.prog X.w) X.A (eval (.Name x pos) X.env) Q E s :=
  Calls.Name_function_global I.ok.kind hg (Calls.loadGlobal_global (by rw [I.ok.glob]; exact I.mod.glob.keeps I.bk) hm h) hd
theorem ld_blt {E : Value → Shared → Prop} {pins : List (Addr × Obj)} {s : Shared} {σ : St} {H : Hp} {x : Str} {u : Value} {pos : Pos} {Q : Value → Shared → Prop} (I : Inv X pins σ H s) (hg : Gl X x) (hm : X.mg x = none) (hv : bootBuiltins x = some u) (h : Q u s)
    (hn : x ≠ "__name__" := by decide) (hd : (x == ("__debug__" : Str)) = false := by decide) : wpAny (model X.prog X.w) X.A (eval (.Name x pos) X.env) Q E s := by
  obtain ⟨mb, h1, h2⟩ := I.mod.blt
  exact Calls.Name_function_global I.ok.kind hg (Calls.loadGlobal_builtin (by rw [I.ok.glob]; exact I.mod.glob.keeps I.bk) hm (by rw [I.ok.blt]; exact h1.keeps I.bk) ((h2 x hn).trans hv) h) hd
theorem pe_bltn {x : Str} {v : V} {u : Value} {pos : Pos} (hg : Gl X x) (hm : X.mg x = none) (hv : bootBuiltins x = some u) (r : RelV v u) (hn : x ≠ "__name__" := by decide) (hd : (x == ("__debug__" : Str)) = false := by decide) : PE X (.Name x pos) (tC v) :=
  fun _ _ _ H _ I h => ld_blt I hg hm hv ⟨v, H, I, r, h⟩ hn hd
variable {a b : Expr} {ta tb : TE} {pos : Pos}
def tB (t : TE) : TT := fun σ H Q => t σ H fun x H1 => ∃ c, x = .bl c ∧ Q c H1
theorem pt_val {e : Expr} {t : TE} (h : PE X e t) (he : ∀ whole, isTrue e X.env whole = (do let v ← whole; standAt e.pos; holding [v] (truthy v)) := by intro _; rfl) : PT X e (tB t) := by
  intro pins s σ H Q I hw
  refine isTrue_plain (thn (h pins s σ H _ I hw) fun v s1 ⟨x, H1, I1, r1, q1⟩ => ?_) (he _)
  obtain ⟨d, rfl, q⟩ := q1
  cases r1
  exact wpAny_truthy_bool ⟨H1, I1, q⟩
variable {tA tB' : TT} {rest : List Expr}
def tAnd (t u : TT) : TT := fun σ H Q => t σ H fun c H1 => if c = true then u σ H1 Q else Q false H1
def tOr (t u : TT) : TT := fun σ H Q => t σ H fun c H1 => if c = true then Q true H1 else u σ H1 Q
def tNot (t : TT) : TT := fun σ H Q => t σ H fun c H1 => Q (!c) H1
theorem pw_and1 (ha : PT X a tA) : PW X (.BoolOp .And [a] pos) tA := by
  intro wh pins s σ H Q I h
  refine isTrue_and (thn (ha pins s σ H Q I h) fun c s1 e => ?_)
  cases c with
  | true => exact isTrue_and_nil e
  | false => exact e
theorem pw_or1 (ha : PT X a tA) : PW X (.BoolOp .Or [a] pos) tA := by
  intro wh pins s σ H Q I h
  refine isTrue_or (thn (ha pins s σ H Q I h) fun c s1 e => ?_)
  cases c with
  | false => exact isTrue_or_nil e
  | true => exact e
theorem pw_and (ha : PT X a tA) (hb : PW X (.BoolOp .And (b :: rest) pos) tB') : PW X (.BoolOp .And (a :: b :: rest) pos) (tAnd tA tB') := by
  intro wh pins s σ H Q I h
  refine isTrue_and (thn (ha pins s σ H _ I h) fun c s1 ⟨H1, I1, q1⟩ => ?_)
  cases c with
  | true => exact hb wh pins s1 σ H1 Q I1 q1
  | false => exact ⟨H1, I1, q1⟩
theorem pw_or (ha : PT X a tA) (hb : PW X (.BoolOp .Or (b :: rest) pos) tB') : PW X (.BoolOp .Or (a :: b :: rest) pos) (tOr tA tB') := by
  intro wh pins s σ H Q I h
  refine isTrue_or (thn (ha pins s σ H _ I h) fun c s1 ⟨H1, I1, q1⟩ => ?_)
  cases c with
  | true => exact ⟨H1, I1, q1⟩
  | false => exact hb wh pins s1 σ H1 Q I1 q1
theorem pt_not (ha : PT X a tA) : PT X (.UnaryOp .Not a pos) (tNot tA) := by
  intro pins s σ H Q I h
  exact isTrue_not (ha pins s σ H (fun c H1 => Q (!c) H1) I h)
def tAndV (ta tb : TE) : TE := fun σ H Q => ta σ H fun x H1 => ∃ c, x = .bl c ∧ if c = true then tb σ H1 Q else Q (.bl false) H1
def tNotV (ta : TE) : TE := fun σ H Q => ta σ H fun x H1 => ∃ c, x = .bl c ∧ Q (.bl (!c)) H1
theorem pe_one {op} {t : TE} (h : PE X a t) : PE X (.BoolOp op [a] pos) t := fun pins s σ H Q I hw => BoolOp_one (h pins s σ H Q I hw)
theorem pe_and (ha : PE X a ta) (hb : PE X (.BoolOp .And (b :: rest) pos) tb) : PE X (.BoolOp .And (a :: b :: rest) pos) (tAndV ta tb) := by
  intro pins s σ H Q I h
  refine BoolOp_and (thn (ha pins s σ H _ I h) fun v s1 hz_ => ?_)
  obtain ⟨x, H1, I1, r1, q1⟩ := hz_
  obtain ⟨c, rfl, q1⟩ := q1
  cases r1
  refine wpAny_truthy_bool ?_
  cases c with
  | true => exact hb pins s1 σ H1 Q I1 q1
  | false => exact ⟨.bl false, H1, I1, rfl, q1⟩
theorem pe_not (ha : PE X a ta) : PE X (.UnaryOp .Not a pos) (tNotV ta) := by
  intro pins s σ H Q I h
  refine UnaryOp_ (thn (ha pins s σ H _ I h) fun v s1 hz_ => ?_)
  obtain ⟨x, H1, I1, r1, q1⟩ := hz_
  obtain ⟨c, rfl, q1⟩ := q1
  cases r1
  exact not_of (wpAny_truthy_bool ⟨.bl (!c), H1, I1, rfl, q1⟩)
end
end L2
namespace L2
open PySem PySem.Spec PyProof.Rows
def SqL (K : PySem.W.Frag) (H : Hp) (a : Addr) (xs : List V) : Prop :=
  Rd H a (.lst xs) ∨
    ∃ (o : Obj) (its : Array Value) (n : Nat), K.lookup a = some o ∧ o.cls = .type "list" ∧ o.dict = none ∧ o.data = .seq its n ∧ its.size ≤ sizeLine ∧ Vals xs its.toList
def SqT (K : PySem.W.Frag) (H : Hp) (a : Addr) (xs : List V) : Prop :=
  Rd H a (.tup xs) ∨
    ∃ (o : Obj) (its : Array Value) (n : Nat), K.lookup a = some o ∧ o.cls = .type "tuple" ∧ o.data = .seq its n ∧ its.size ≤ sizeLine ∧ Vals xs its.toList
def absV : Value → Option V
  | .none => some .non
  | .bool b => some (.bl b)
  | .int i _ => some (.int i)
  | .str x _ => some (.str x)
  | .bytes b _ => some (.byt b)
  | .float b _ => some (.flt b)
  | .ref a => some (.ref a)
  | .type n => some (.ty n)
  | _ => none
theorem RelV.abs {x : V} {u : Value} (r : RelV x u) : absV u = some x := by
  cases x with
  | non => cases r; rfl
  | bl _ => cases r; rfl
  | int _ => obtain ⟨t, rfl⟩ := r; rfl
  | str _ => obtain ⟨t, rfl⟩ := r; rfl
  | byt _ => obtain ⟨t, rfl⟩ := r; rfl
  | flt _ => obtain ⟨t, rfl⟩ := r; rfl
  | ref _ => cases r; rfl
  | ty _ => cases r; rfl
theorem RelV.inj {x y : V} {u : Value} (r : RelV x u) (q : RelV y u) : x = y := Option.some.inj (r.abs.symm.trans q.abs)
theorem Vals.inj : ∀ {xs ys : List V} {us : List Value}, Vals xs us → Vals ys us → xs = ys
  | _, _, _, .nil, .nil => rfl
  | _, _, _, .cons r t, .cons r' t' => by rw [r.inj r', Vals.inj t t']
section
variable {X : Cx} {pins : List (Addr × Obj)} {σ : St} {H : Hp} {s : Shared} {a : Addr} {xs ys : List V}
theorem SqL.of {K : PySem.W.Frag} (h : H a = some (.lst xs)) : SqL K H a xs := .inl (.inl h)
theorem SqT.of {K : PySem.W.Frag} (h : H a = some (.tup xs)) : SqT K H a xs := .inl (.inl h)
theorem Inv.list (I : Inv X pins σ H s) (h : SqL X.K H a xs) : ∃ its : List Value, Vals xs its ∧ PlainL s.heap a its.toArray ∧ xs.length ≤ sizeLine := by
  rcases h with h | ⟨o, its, n, hk, hc, hd, hs, hz, r⟩
  · obtain ⟨z, its, n, r, e⟩ := h.ok I.hok
    exact ⟨its, r, ⟨_, n, e, rfl, rfl, rfl⟩, z⟩
  · refine ⟨its.toList, r, ⟨o, n, I.kIn a o hk, hc, hd, by simpa using hs⟩, ?_⟩
    have e := r.length
    simp only [Array.length_toList] at e
    omega
theorem Inv.tuple (I : Inv X pins σ H s) (h : SqT X.K H a xs) : ∃ its : List Value, Vals xs its ∧ IsTup s.heap a its.toArray ∧ xs.length ≤ sizeLine := by
  rcases h with h | ⟨o, its, n, hk, hc, hs, hz, r⟩
  · obtain ⟨z, its, r, p⟩ := h.ok I.hok
    exact ⟨its, r, p, z⟩
  · refine ⟨its.toList, r, ⟨o, I.kIn a o hk, hc, n, by simpa using hs⟩, ?_⟩
    have e := r.length
    simp only [Array.length_toList] at e
    omega
theorem Inv.list_inj (I : Inv X pins σ H s) (h : SqL X.K H a xs) (h' : SqL X.K H a ys) : xs = ys := by
  obtain ⟨its, r, ⟨o, n, e, _, _, d⟩, _⟩ := I.list h
  obtain ⟨its', r', ⟨o', n', e', _, _, d'⟩, _⟩ := I.list h'
  rw [e] at e'; cases e'
  rw [d] at d'
  injection d' with d1 _
  have : its = its' := by simpa using congrArg Array.toList d1
  subst this
  exact r.inj r'
end
section
variable {X : Cx} {pins : List (Addr × Obj)} {σ : St} {H : Hp} {s : Shared} {E : Value → Shared → Prop}
end
section
variable {X : Cx} {st : Stmt} {rest : List Stmt} {t u : TS} {e : Expr} {te : TE} {pos : Pos}
def tNext : TS := fun D σ H => D.nx σ H
def tSeq (t u : TS) : TS := fun D σ H => t { D with nx := u D } σ H
theorem pss_nil : PSs X [] tNext := fun _ _ σ H _ I h => wpAny_execs_nil ⟨σ, H, I, h⟩
theorem pss_cons (h1 : PS X st t) (h2 : PSs X rest u) : PSs X (st :: rest) (tSeq t u) := by
  intro pins s σ H D I h
  refine wpAny_execs_cons (thn (h1 pins s σ H { D with nx := u D } I h) fun f s1 q => ?_)
  cases f with
  | next =>
    obtain ⟨σ', H', I', q⟩ := q
    exact h2 pins s1 σ' H' D I' q
  | ret v => exact q
  | brk => exact q
  | cont => exact q
theorem pss_one (h1 : PS X st t) : PSs X [st] t := by
  intro pins s σ H D I h
  refine wpAny_execs_cons (thn (h1 pins s σ H D I h) fun f s1 q => ?_)
  cases f with
  | next => exact wpAny_execs_nil q
  | ret v => exact q
  | brk => exact q
  | cont => exact q
theorem Inv.quiet {pins : List (Addr × Obj)} {σ : St} {H : Hp} {s : Shared} (I : Inv X pins σ H s) : interactive X.env = false := by simp [interactive, I.ok.kind]
def tDrop (te : TE) : TS := fun D σ H => te σ H fun _ H1 => D.nx σ H1
theorem ps_expr (he : PE X e te) (hs : swapsWith e none pos.line X.env = pure false := by rfl) : PS X (.Expr e pos) (tDrop te) := by
  intro pins s σ H D I h
  exact wpAny_Expr_any (thn (he pins s σ H _ I h) fun v s1 ⟨x, H1, I1, r1, q1⟩ => ⟨σ, H1, I1, q1⟩) I.quiet hs
def tRet (te : TE) : TS := fun D σ H => te σ H D.rt
theorem ps_ret (he : PE X e te) : PS X (.Return (some e) pos) (tRet te) := by
  intro pins s σ H D I h
  exact wpAny_Return_some (thn (he pins s σ H _ I h) fun v s1 ⟨x, H1, I1, r1, q1⟩ => ⟨x, σ, H1, I1, r1, q1⟩)
def tIfS (c : TT) (t u : TS) : TS := fun D σ H => c σ H fun b H1 => if b = true then t D σ H1 else u D σ H1
theorem ps_if {c : Expr} {a b : List Stmt} {tc : TT} (hc : PT X c tc) (ha : PSs X a t) (hb : PSs X b u) : PS X (.If c a b pos) (tIfS tc t u) := by
  intro pins s σ H D I h
  refine wpAny_If (thn (hc pins s σ H _ I h) fun d s1 ⟨H1, I1, q1⟩ => ?_)
  cases d with
  | true => exact ha pins s1 σ H1 D I1 q1
  | false => exact hb pins s1 σ H1 D I1 q1
end
abbrev TG := V → St → Hp → (St → Hp → Prop) → Prop
abbrev TGs := List V → St → Hp → (St → Hp → Prop) → Prop
def PG (X : Cx) (target : Expr) (t : TG) : Prop :=
  ∀ (pins : List (Addr × Obj)) (s : Shared) (σ : St) (H : Hp) (v : V) (u : Value) (Q : St → Hp → Prop), Inv X pins σ H s → RelV v u → t v σ H Q →
    wpAny (model X.prog X.w) X.A (assign target X.env u) (fun _ s' => ∃ σ' H', Inv X pins σ' H' s' ∧ Q σ' H') X.xe s
def PGs (X : Cx) (ts : List Expr) (t : TGs) : Prop :=
  ∀ (pins : List (Addr × Obj)) (s : Shared) (σ : St) (H : Hp) (vs : List V) (us : List Value) (Q : St → Hp → Prop), Inv X pins σ H s → Vals vs us → t vs σ H Q →
    wpAny (model X.prog X.w) X.A (assignInOrder ((assignEach ts X.env).map (·.2)) us) (fun _ s' => ∃ σ' H', Inv X pins σ' H' s' ∧ Q σ' H') X.xe s
abbrev TSet := V → V → V → Hp → (Hp → Prop) → Prop
def PSet (X : Cx) (t : TSet) : Prop :=
  ∀ (pins : List (Addr × Obj)) (s : Shared) (σ : St) (H : Hp) (o i v : V) (ov iv u : Value) (Q : Hp → Prop), Inv X pins σ H s → RelV o ov → RelV i iv → RelV v u → t o i v H Q →
    wpAny (model X.prog X.w) X.A (setItem ov iv u) (fun _ s' => ∃ H', Inv X pins σ H' s' ∧ Q H') X.xe s
section
variable {X : Cx} {pos : Pos}
def gName (i : Nat) : TG := fun v σ H Q => Q (σ.set i (some v)) H
theorem pg_name {i : Nat} {x : Str} (hN : X.N.Nodup) (hi : X.N[i]? = some x) (hx : Loc X.env.scope x) (hf : X.fn x = true ∨ X.env.scope.names.lookup x = some .local := by first | exact .inl rfl | exact .inr rfl | assumption) : PG X (.Name x pos) (gName i) := by
  intro pins s σ H v u Q I r h
  exact wpAny_assign_Name (store_ok I hN hi hx r (fun s' I' => ⟨_, H, I', h⟩) hf)
def gNil : TGs := fun vs σ H Q => vs = [] ∧ Q σ H
def gCons (t : TG) (u : TGs) : TGs := fun vs σ H Q => ∃ v r, vs = v :: r ∧ t v σ H fun σ' H' => u r σ' H' Q
theorem pgs_nil : PGs X [] gNil := by
  intro pins s σ H vs us Q I r h
  obtain ⟨e, h⟩ := h
  subst e
  cases r
  exact assignInOrder_nil ⟨σ, H, I, h⟩
theorem pgs_cons {e : Expr} {es : List Expr} {t : TG} {u : TGs} (h1 : PG X e t) (h2 : PGs X es u)
    (hs : (assignEach (e :: es) X.env).map (·.2) = assign e X.env :: (assignEach es X.env).map (·.2) := by rfl) : PGs X (e :: es) (gCons t u) := by
  intro pins s σ H vs us Q I r h
  obtain ⟨v, vr, e1, h⟩ := h
  subst e1
  cases r with
  | cons r rr =>
    rw [hs]
    refine assignInOrder_cons (thn (h1 pins s σ H _ _ _ I r h) fun _ s1 ⟨σ1, H1, I1, q1⟩ => ?_)
    exact h2 pins s1 σ1 H1 _ _ Q I1 rr q1
def gTup (K : PySem.W.Frag) (n : Nat) (t : TGs) : TG := fun v σ H Q => ∃ a xs, v = .ref a ∧ SqT K H a xs ∧ xs.length = n ∧ t xs σ H Q
theorem pg_tup {es : List Expr} {k : Nat} {t : TGs} {n : Nat} (hc : X.calm = true) (h : PGs X es t)
    (hn : (assignEach es X.env).length = n := by rfl) (hst : (assignEach es X.env).findIdx? (·.1) = none := by rfl) : PG X (.Tuple es k pos) (gTup X.K n t) := by
  intro pins s σ H v u Q I r hw
  obtain ⟨a, xs, e1, hq, hl, hw⟩ := hw
  subst e1
  cases r
  obtain ⟨its, rv, ht, hz⟩ := I.tuple hq
  refine assign_Tuple_tuple (I.ok.hd hc) ht (by simp [hn, ← hl, rv.length]) hst fun h' hx => ?_
  have I1 : Inv X pins σ H { s with heap := h' } := I.kept (t' := s.toks) fun b o e => hx b o (Nat.ne_of_lt (Heap.lt_size e)) e
  exact h pins _ σ H xs _ Q I1 (by simpa using rv) hw
def gSub (to ti : TE) (t : TSet) : TG := fun v σ H Q => to σ H fun o H1 => ti σ H1 fun i H2 => t o i v H2 fun H3 => Q σ H3
theorem pg_sub {o i : Expr} {to ti : TE} {t : TSet} (ho : PE X o to) (hi : PE X i ti) (hs : PSet X t)
    (ha : ∀ v, assign (.Subscript o i pos) X.env v = (do
      let ov ← holding [v] (eval o X.env)
      let iv ← holding [v, ov] (eval i X.env)
      standAt pos
      holding [v, ov, iv] (setItem ov iv v)
      release [v, ov, iv] []) := by intro _; rfl) : PG X (.Subscript o i pos) (gSub to ti t) := by
  intro pins s σ H v u Q I r h
  rw [ha]
  refine wpAny_bind (wpAny_holding (thn (ho pins s σ H _ I h) fun ov s1 hz_ => ?_))
  obtain ⟨x, H1, I1, r1, q1⟩ := hz_
  refine wpAny_bind (wpAny_holding (thn (hi pins s1 σ H1 _ I1 q1) fun iv s2 hz_ => ?_))
  obtain ⟨y, H2, I2, r2, q2⟩ := hz_
  refine wpAny_bind (wpAny_standAt (wpAny_bind (wpAny_holding (thn (hs pins s2 σ H2 x y v ov iv u _ I2 r1 r2 r q2) fun _ s3 ⟨H3, I3, q3⟩ => ?_))))
  exact wpAny_release ⟨σ, H3, I3, q3⟩
def tAsg (te : TE) (g : TG) : TS := fun D σ H => te σ H fun x H1 => g x σ H1 D.nx
theorem ps_asg {tg e : Expr} {te : TE} {g : TG} (he : PE X e te) (hg : PG X tg g) (hs : swapsWithSole [tg] e pos.line X.env = pure false := by rfl) (hw : swappedStores [tg] e X.env = pure none := by rfl)
    (h1 : (assignEach [tg] X.env).map (·.2) = [assign tg X.env] := by rfl) : PS X (.Assign [tg] e pos) (tAsg te g) := by
  intro pins s σ H D I h
  refine wpAny_Assign_stores (thn (he pins s σ H _ I h) fun v s1 ⟨x, H1, I1, r1, q1⟩ => ?_) hs hw
  rw [h1]
  exact thn (hg pins s1 σ H1 x v _ I1 r1 q1) fun _ s2 q => q
theorem ps_set {i : Nat} {x : Str} {e : Expr} {te : TE} {pos' : Pos} (hN : X.N.Nodup) (hi : X.N[i]? = some x) (hx : Loc X.env.scope x) (he : PE X e te) (hs : swapsWith e (some (.Name x pos')) pos.line X.env = pure false := by rfl) (hf : X.fn x = true ∨ X.env.scope.names.lookup x = some .local := by first | exact .inl rfl | exact .inr rfl | assumption) :
    PS X (.Assign [.Name x pos'] e pos) (tAsg te (gName i)) := by
  intro pins s σ H D I h
  refine wpAny_Assign_Name (thn (he pins s σ H _ I h) fun v s1 hz_ => ?_) hs
  obtain ⟨y, H1, I1, r1, q1⟩ := hz_
  exact store_ok I1 hN hi hx r1 (fun s2 I2 => ⟨_, H1, I2, q1⟩) hf
end
section
variable {X : Cx} {pos : Pos}
end
structure It where
  go : Nat → Hp → Prop
  yld : Nat → Hp → V → Hp → Prop
  stop : Nat → Hp → Prop
def FpOk (X : Cx) (pins : List (Addr × Obj)) (H : Hp) (b : Addr) : Prop :=
  H b = none ∧ b ≠ X.env.locals ∧ b ∉ X.fs ∧ (b ∈ X.ex ∨ X.s₀.heap.objs.size ≤ b) ∧ (∀ x c, X.env.cells.lookup x = some c → c ≠ b) ∧ ∀ p ∈ X.pn ++ pins, p.1 ≠ b
theorem Inv.fpOk {X : Cx} {pins : List (Addr × Obj)} {σ : St} {H H' : Hp} {s : Shared} {b : Addr} (I : Inv X pins σ H s) (hb : s.heap.objs.size ≤ b) (hn : H' b = none) : FpOk X pins H' b := by
  refine ⟨hn, Nat.ne_of_gt (Nat.lt_of_lt_of_le I.lt hb), I.nofs hb, .inr (Nat.le_trans I.sz hb), fun x c e z => ?_, fun p hp z => ?_⟩
  · obtain ⟨v, q⟩ := I.cell x c e
    exact absurd (Nat.lt_of_lt_of_le q.lt (by rw [z]; exact hb)) (Nat.lt_irrefl _)
  · exact absurd (Nat.lt_of_lt_of_le (Heap.lt_size (I.pin p hp).1) (by rw [z]; exact hb)) (Nat.lt_irrefl _)
structure Turn (P : Program) (w : World) (K : PySem.W.Frag) (tg : Expr) (J : It) (fp : List Addr) (it : Addr) (tn : Nat → Heap → Prop) : Prop where
  mem : it ∈ fp
  obj : ∀ i h, tn i h → ∀ b ∈ fp, ∃ o, h.get? b = some o ∧ ∀ v, o.data ≠ .cell v
  keep : ∀ i h h', tn i h → (∀ b ∈ fp, ∀ o, h.get? b = some o → h'.get? b = some o) → tn i h'
  item : ∀ (X : Cx), X.prog = P → X.w = w → X.K = K → X.calm = true → ∀ (i : Nat) (pins : List (Addr × Obj)) (s : Shared) (σ : St) (H : Hp) (E : Value → Shared → Prop), Inv X pins σ H s → (∀ b ∈ fp, FpOk X pins H b) → tn i s.heap → J.go i H →
    wpAny (model P w) X.A (pyNext (.ref it)) (fun r s1 => ∃ u, r = some u ∧
      wpAny (model P w) X.A (letOwnedTupleGo tg (.ref it) u) (fun _ s2 => ∃ x H', Inv X pins σ H' s2 ∧ RelV x u ∧ J.yld i H x H' ∧ tn (i + 1) s2.heap ∧ ∀ b ∈ fp, H' b = none) E s1) E s
  done : ∀ (X : Cx), X.prog = P → X.w = w → X.K = K → X.calm = true → ∀ (i : Nat) (pins : List (Addr × Obj)) (s : Shared) (σ : St) (H : Hp) (E : Value → Shared → Prop), Inv X pins σ H s → (∀ b ∈ fp, FpOk X pins H b) → tn i s.heap → J.stop i H →
    wpAny (model P w) X.A (pyNext (.ref it)) (fun r s1 => r = none ∧ Inv X pins σ H s1) E s
  self : ∀ (A : Around) (i : Nat) (s : Shared) (Q : Value → Shared → Prop) (E : Value → Shared → Prop), tn i s.heap → Q (.ref it) s → wpAny (model P w) A (pyIter (.ref it)) Q E s
abbrev TI := St → Hp → (It → Hp → Prop) → Prop
def PIE (X : Cx) (pins : List (Addr × Obj)) (σ : St) (tg : Expr) (R : It → Hp → Prop) (itv : Value) (s2 : Shared) : Prop :=
  ∃ (it : Addr) (fp : List Addr) (tn : Nat → Heap → Prop) (J : It) (H' : Hp), itv = .ref it ∧ Inv X pins σ H' s2 ∧ Turn X.prog X.w X.K tg J fp it tn ∧ tn 0 s2.heap ∧ (∀ b ∈ fp, FpOk X pins H' b) ∧ R J H'
def PI (X : Cx) (tg iter : Expr) (wi : TI) : Prop :=
  ∀ (pins : List (Addr × Obj)) (s : Shared) (σ : St) (H : Hp) (R : It → Hp → Prop), Inv X pins σ H s → wi σ H R →
    wpAny (model X.prog X.w) X.A (eval iter X.env) (fun v s1 => wpAny (model X.prog X.w) X.A (pyIter v) (PIE X pins σ tg R) X.xe s1) X.xe s
theorem go_of {M : Model} {A : Around} {E : Value → Shared → Prop} {s : Shared} {tg : Expr} {it : Addr} {u : Value} {o : Obj} {n : String} {vs : Array Value} {Q : Unit → Shared → Prop} (ho : s.heap.get? it = some o) (hc : o.cls = .type n) (hd : o.data = .fields vs)
    (hn : ["enumerate", "zip", "dict_itemiterator", "dict_reverseitemiterator", "odict_iterator", "itertools.zip_longest", "itertools.pairwise"].contains n = false) (hQ : Q () s) : wpAny M A (letOwnedTupleGo tg (.ref it) u) Q E s := by
  unfold letOwnedTupleGo
  cases tg <;> first
    | exact wpAny_pure hQ
    | (cases u <;> first
        | exact wpAny_pure hQ
        | (refine wpAny_bind (wpAny_load ho ?_)
           rw [hc, hd]
           show wpAny M A (if (["enumerate", "zip", "dict_itemiterator", "dict_reverseitemiterator", "odict_iterator", "itertools.zip_longest", "itertools.pairwise"].contains n && vs[0]? == some (rawInt _)) = true then _ else _) Q E s
           rw [if_neg (by intro h; rw [hn, Bool.false_and] at h; cases h)]
           exact wpAny_pure hQ))
def Itl (K : PySem.W.Frag) (a : Addr) : It :=
  ⟨fun i H => ∃ xs x, SqL K H a xs ∧ xs[i]? = some x, fun i H x H' => H' = H ∧ ∀ xs, SqL K H a xs → xs[i]? = some x, fun i H => ∃ xs, SqL K H a xs ∧ xs.length ≤ i⟩
def Itr (lo : Int) (n : Nat) : It := ⟨fun i _ => i < n, fun i H x H' => H' = H ∧ x = .int (lo + i), fun i _ => n ≤ i⟩
theorem turn_list {P : Program} {w : World} {K : PySem.W.Frag} {tg : Expr} (a it : Addr) : Turn P w K tg (Itl K a) [it] it (fun i h => h.IsListIter it a i) where
  mem := by simp
  obj := fun i h st b hb => by
    have e : b = it := by simpa using hb
    subst e
    obtain ⟨o, e, c, d⟩ := st
    exact ⟨o, e, fun v z => by rw [d] at z; cases z⟩
  keep := fun i h h' st k => st.at fun o e => k it (by simp) o e
  item := by
    intro X hP hw hK hc i pins s σ H E I hf st hg
    subst hP hw hK
    obtain ⟨xs, x, hq, hx⟩ := hg
    obtain ⟨its, rv, p, hz⟩ := I.list hq
    obtain ⟨u, hu, ru⟩ := rv.get hx
    obtain ⟨f0, f1, f2, f3, f4, f5⟩ := hf it (by simp)
    refine wpAny_pyNext_list_item st p.isList (x := u) (by simpa using hu) fun h' st' sb => ?_
    have I1 : Inv X pins σ H { s with heap := h' } := I.turned (t' := s.toks) (fun b o hb e => (sb.2 b hb).trans e) f0 f1 f3 f4 f5
    obtain ⟨o, e, c, d⟩ := id st'
    exact ⟨u, rfl, go_of (s := { s with heap := h' }) e c d (by decide) ⟨x, H, I1, ru, ⟨rfl, fun ys hy => by rw [I.list_inj hy hq]; exact hx⟩, st', fun b hb => (hf b hb).1⟩⟩
  done := by
    intro X hP hw hK hc i pins s σ H E I hf st hg
    subst hP hw hK
    obtain ⟨xs, hq, hx⟩ := hg
    obtain ⟨its, rv, p, hz⟩ := I.list hq
    obtain ⟨f0, f1, f2, f3, f4, f5⟩ := hf it (by simp)
    have hl := rv.length
    exact wpAny_pyNext_list_end (I.ok.hd hc) st p.isList (by simp; omega) fun h' eb => ⟨rfl, I.turned (t' := s.toks) (fun b o hb e => eb b o hb e) f0 f1 f3 f4 f5⟩
  self := fun _ _ _ _ _ st h => wpAny_pyIter_listiter st h
theorem turn_range {P : Program} {w : World} {K : PySem.W.Frag} {tg : Expr} (it : Addr) (lo : Int) (n : Nat) : Turn P w K tg (Itr lo n) [it] it (fun i h => IsRangeIter h it (lo + (i : Nat) * 1) ((n : Int) - (i : Nat)) 1) where
  mem := by simp
  obj := fun i h st b hb => by
    have e : b = it := by simpa using hb
    subst e
    exact ⟨_, st, fun v z => by
      have z' : Data.fields _ = Data.cell v := z
      cases z'⟩
  keep := fun i h h' st k => k it (by simp) _ st
  item := by
    intro X hP hw hK hc i pins s σ H E I hf st hg
    subst hP hw hK
    obtain ⟨f0, f1, f2, f3, f4, f5⟩ := hf it (by simp)
    have W := Walks.range (prog := X.prog) (w := X.w) (I.ok.hd hc) it lo 1 n
    refine W.item i s _ _ hg st fun v h' tk hv st' kk => ?_
    obtain ⟨t, rfl⟩ := hv
    have I1 : Inv X pins σ H { s with heap := h', toks := tk } := I.turned (fun b o hb e => kk b o (by simpa using hb) e) f0 f1 f3 f4 f5
    refine ⟨_, rfl, go_of (s := { s with heap := h', toks := tk }) (n := "range_iterator") st' rfl rfl (by decide) ⟨.int (lo + i), H, I1, ⟨t, ?_⟩, ⟨rfl, rfl⟩, st', fun b hb => (hf b hb).1⟩⟩
    rw [Int.mul_one]
  done := by
    intro X hP hw hK hc i pins s σ H E I hf st hg
    subst hP hw hK
    obtain ⟨f0, f1, f2, f3, f4, f5⟩ := hf it (by simp)
    exact wpAny_pyNext_range_end (I.ok.hd hc) st (by have : n ≤ i := hg; omega) fun h' eb => ⟨rfl, I.turned (t' := s.toks) (fun b o hb e => eb b o hb e) f0 f1 f3 f4 f5⟩
  self := fun _ _ _ _ _ st h => wpAny_pyIter_rangeiter st h
end L2
namespace L2
open PySem PySem.Spec PyProof.Rows
section
variable {X : Cx} {tg : Expr}
def iList (K : PySem.W.Frag) (tl : TE) : TI := fun σ H R => tl σ H fun x H1 => ∃ a, x = .ref a ∧ (∃ xs, SqL K H1 a xs) ∧ R (Itl K a) H1
theorem pi_list {l : Expr} {tl : TE} (hl : PE X l tl) : PI X tg l (iList X.K tl) := by
  intro pins s σ H R I h
  refine thn (hl pins s σ H _ I h) fun v s1 hz_ => ?_
  obtain ⟨x, H1, I1, r1, q1⟩ := hz_
  obtain ⟨a, e, ⟨xs, hq⟩, q⟩ := q1
  subst e
  cases r1
  obtain ⟨its, rv, p, hz⟩ := I1.list hq
  refine wpAny_pyIter_list p.isList ?_
  refine ⟨s1.heap.objs.size, [s1.heap.objs.size], _, _, H1, rfl, I1.kept (t' := s1.toks) fun b o e => Heap.get?_push_of_some _ e, turn_list a _, ⟨_, Heap.get?_push_size _ rfl, rfl, rfl⟩, fun b hb => ?_, q⟩
  have e : b = s1.heap.objs.size := by simpa using hb
  subst e
  exact I1.fpOk (Nat.le_refl _) (I1.hok.fresh (Nat.le_refl _))
theorem range_it {pins : List (Addr × Obj)} {σ : St} {H : Hp} {s : Shared} {R : It → Hp → Prop} {E : Value → Shared → Prop} {lo hi : Int} {t u v : Tok} {tk : Nat} (I : Inv X pins σ H s) (h1 : -(2 ^ 62) ≤ lo) (h2 : lo < 2 ^ 62) (h3 : -(2 ^ 62) ≤ hi) (h4 : hi < 2 ^ 62)
    (q : R (Itr lo (hi - lo).toNat) H) : wpAny (model X.prog X.w) X.A (pyIter (.ref s.heap.objs.size)) (PIE X pins σ tg R) E { s with heap := s.heap.push { cls := .type "range", data := .fields #[.int lo t, .int hi u, .int 1 v] }, toks := tk } := by
  refine wpAny_pyIter_range (IsRange.new ..) (small_one h1 h2 h3 h4) ?_
  have I1 : Inv X pins σ H { s with heap := s.heap.push { cls := .type "range", data := .fields #[.int lo t, .int hi u, .int 1 v] }, toks := tk } := I.kept fun b o e => Heap.get?_push_of_some _ e
  refine ⟨(s.heap.push { cls := .type "range", data := .fields #[.int lo t, .int hi u, .int 1 v] }).objs.size, [(s.heap.push { cls := .type "range", data := .fields #[.int lo t, .int hi u, .int 1 v] }).objs.size], _, _, H, rfl,
    I1.kept (t' := tk) fun b o e => Heap.get?_push_of_some _ e, turn_range _ lo (hi - lo).toNat, ?_, fun b hb => ?_, q⟩
  · have e1 : lo + ((0 : Nat) : Int) * 1 = lo := by simp
    have e2 : (((hi - lo).toNat : Nat) : Int) - ((0 : Nat) : Int) = Builtin.Range.rangeSize lo hi 1 := by rw [rangeSize_one]; split <;> omega
    show IsRangeIter _ _ (lo + ((0 : Nat) : Int) * 1) ((((hi - lo).toNat : Nat) : Int) - ((0 : Nat) : Int)) 1
    rw [e1, e2]
    exact Heap.get?_push_size _ rfl
  · have e : b = (s.heap.push { cls := .type "range", data := .fields #[.int lo t, .int hi u, .int 1 v] }).objs.size := by simpa using hb
    subst e
    exact I1.fpOk (Nat.le_refl _) (I1.hok.fresh (Nat.le_refl _))
def iRng1 (ta : TA) : TI := fun σ H R => ta σ H fun vs H1 => ∃ j : Int, vs = [.int j] ∧ -(2 ^ 62) ≤ j ∧ j < 2 ^ 62 ∧ R (Itr 0 j.toNat) H1
theorem pi_range1 {a : Expr} {ta : TA} {p pos : Pos} (hg : Gl X "range") (hm : X.mg "range" = none) (ha : PA X [a] ta) (hs : starEach [a] X.env = [(false, eval a X.env)] := by rfl) : PI X tg (.Call (.Name "range" p) [a] [] pos) (iRng1 ta) := by
  intro pins s σ H R I h
  refine Call_ (ld_blt I hg hm boot_range (PyProof.Rows.callWith_type1 (thn (ha pos pins s σ H _ I h) fun us s1 ⟨vs, H1, I1, r1, q1⟩ => ?_) hs rfl))
  obtain ⟨j, e, q1, q2, q⟩ := q1
  subst e
  cases r1 with
  | cons r rr =>
    cases rr
    obtain ⟨t, rfl⟩ := r
    exact call_range_1 (range_it I1 (by omega) (by omega) q1 q2 (by simpa using q))
def tFor (wi : TI) (g : TG) (tb : TS) : TS := fun D σ H => wi σ H fun J H1 => ∃ W : Nat → Nat → St → Hp → Prop, (∃ m, W 0 m σ H1) ∧ ∀ i m σ H, W i m σ H →
  (J.stop i H ∧ D.nx σ H) ∨ (J.go i H ∧ ∃ N : St → Hp → Prop, (∀ σ' H', N σ' H' → ∃ m', m' < m ∧ W (i + 1) m' σ' H') ∧ ∀ x H', J.yld i H x H' → g x σ H' fun σ2 H2 => tb { D with nx := N, ct := N, bk := D.nx } σ2 H2)
def pinsAt (fp : List Addr) (h : Heap) : List (Addr × Obj) := fp.filterMap fun b => (h.get? b).map fun o => (b, o)
theorem mem_pinsAt {fp : List Addr} {h : Heap} {b : Addr} {o : Obj} (hb : b ∈ fp) (e : h.get? b = some o) : (b, o) ∈ pinsAt fp h := List.mem_filterMap.mpr ⟨b, hb, by rw [e]; rfl⟩
theorem of_pinsAt {fp : List Addr} {h : Heap} {p : Addr × Obj} (hp : p ∈ pinsAt fp h) : p.1 ∈ fp ∧ h.get? p.1 = some p.2 := by
  obtain ⟨b, hb, e⟩ := List.mem_filterMap.mp hp
  cases q : h.get? b with
  | none => rw [q] at e; cases e
  | some o =>
    rw [q] at e
    have e' : (b, o) = p := Option.some.inj e
    subst e'
    exact ⟨hb, q⟩
theorem Inv.pinned {pins : List (Addr × Obj)} {σ : St} {H : Hp} {s : Shared} {fp : List Addr} (I : Inv X pins σ H s) (hf : ∀ b ∈ fp, FpOk X pins H b) (ho : ∀ b ∈ fp, ∃ o, s.heap.get? b = some o ∧ ∀ v, o.data ≠ .cell v) : Inv X (pins ++ pinsAt fp s.heap) σ H s :=
  I.pins_of fun p hp => (List.mem_append.mp hp).elim (fun z => I.pin p (List.mem_append_right _ z)) fun z => by
    obtain ⟨hb, e⟩ := of_pinsAt z
    obtain ⟨f0, f1, f2, _⟩ := hf p.1 hb
    obtain ⟨o, e', d⟩ := ho p.1 hb
    rw [e] at e'; cases e'
    exact ⟨e, f0, f1, f2, d⟩
theorem Inv.unpinned {pins pl : List (Addr × Obj)} {σ : St} {H : Hp} {s : Shared} (I : Inv X (pins ++ pl) σ H s) : Inv X pins σ H s := I.pins_of fun p hp => I.pin p (List.mem_append_right _ (List.mem_append_left _ hp))
theorem ps_for {iter : Expr} {body : List Stmt} {wi : TI} {g : TG} {tb : TS} {pos : Pos} (hp : PassesOwn (model X.prog X.w) X.A X.env X.xe) (hc : X.calm = true) (hi : PI X tg iter wi) (hg : PG X tg g) (hb : PSs X body tb)
    (hs : ∀ x, foldedSetIterable iter X.env x = pure x := by intro _; rfl) : PS X (.For tg iter body [] pos) (tFor wi g tb) := by
  intro pins s σ H D I h
  refine wpAny_For (thn (hi pins s σ H _ I h) fun v s1 h1 => thn h1 fun itv s2 h2 => ?_) hs
  obtain ⟨it, fp, tn, J, H2, e, I2, T, st2, f2, W, ⟨m0, w0⟩, turn⟩ := h2
  subst e
  have stat : ∀ {H' : Hp}, (∀ b ∈ fp, H' b = none) → ∀ b ∈ fp, FpOk X pins H' b := fun hn b hb => ⟨hn b hb, (f2 b hb).2⟩
  refine codeAny_forLoop_any (fun n s' => ∃ i σ' H', Inv X pins σ' H' s' ∧ tn i s'.heap ∧ (∀ b ∈ fp, H' b = none) ∧ W i n σ' H') ?_ m0 ⟨0, σ, H2, I2, st2, fun b hb => (f2 b hb).1, w0⟩
  rintro n s3 ⟨i, σ3, H3, I3, st3, fr3, w3⟩
  rcases turn i n σ3 H3 w3 with ⟨stop, qn⟩ | ⟨go, N, hN, step⟩
  · refine wpAny_passesOwn hp (thn (T.done X rfl rfl rfl hc i pins s3 σ3 H3 X.xe I3 (stat fr3) st3 stop) fun r s4 ⟨hr, I4⟩ => ?_)
    subst hr
    exact wpAny_execs_nil ⟨σ3, H3, I4, qn⟩
  · refine wpAny_passesOwn hp (thn (T.item X rfl rfl rfl hc i pins s3 σ3 H3 X.xe I3 (stat fr3) st3 go) fun r s4 ⟨u, hr, h4⟩ => ?_)
    subst hr
    refine wpAny_passesOwn hp (thn h4 fun _ s5 hz_ => ?_)
    obtain ⟨x, H5, I5, r5, y5, st5, fr5⟩ := hz_
    have I5' := I5.pinned (stat fr5) (T.obj _ _ st5)
    refine wpAny_passesOwn hp (thn (hg _ s5 σ3 H5 x u _ I5' r5 (step x H5 y5)) fun _ s6 ⟨σ6, H6, I6, q6⟩ => ?_)
    refine wpAny_passesOwn hp (thn (hb _ s6 σ6 H6 _ I6 q6) fun f s7 q7 => ?_)
    have again : ∀ {σ7 : St} {H7 : Hp}, Inv X (pins ++ pinsAt fp s5.heap) σ7 H7 s7 → N σ7 H7 → ∃ m, m < n ∧ ∃ i σ' H', Inv X pins σ' H' s7 ∧ tn i s7.heap ∧ (∀ b ∈ fp, H' b = none) ∧ W i m σ' H' := fun {σ7 H7} I7 n7 => by
      obtain ⟨m', hm, w7⟩ := hN σ7 H7 n7
      refine ⟨m', hm, i + 1, σ7, H7, I7.unpinned, T.keep _ _ _ st5 fun b hb o e => (I7.pin (b, o) (List.mem_append_right _ (List.mem_append_right _ (mem_pinsAt hb e)))).1, fun b hb => ?_, w7⟩
      obtain ⟨o, e, d⟩ := T.obj _ _ st5 b hb
      exact (I7.pin (b, o) (List.mem_append_right _ (List.mem_append_right _ (mem_pinsAt hb e)))).2.1
    cases f with
    | next => obtain ⟨σ7, H7, I7, n7⟩ := q7; exact again I7 n7
    | cont => obtain ⟨σ7, H7, I7, n7⟩ := q7; exact again I7 n7
    | brk => obtain ⟨σ7, H7, I7, q7⟩ := q7; exact ⟨σ7, H7, I7.unpinned, q7⟩
    | ret v => obtain ⟨x7, σ7, H7, I7, r7, q7⟩ := q7; exact ⟨x7, σ7, H7, I7.unpinned, r7, q7⟩
end
theorem for_list {K : PySem.W.Frag} {a : Addr} {xs : List V} {g : TG} {tb : TS} {D : Ends} {σ : St} {H : Hp} (Pv : Nat → St → Hp → Prop) (h0 : Pv 0 σ H) (hl : ∀ i σ H, i ≤ xs.length → Pv i σ H → SqL K H a xs)
    (hs : ∀ i x σ H, xs[i]? = some x → Pv i σ H → g x σ H fun σ2 H2 => tb { D with nx := Pv (i + 1), ct := Pv (i + 1), bk := D.nx } σ2 H2) (hd : ∀ σ H, Pv xs.length σ H → D.nx σ H) :
    ∃ W : Nat → Nat → St → Hp → Prop, (∃ m, W 0 m σ H) ∧ ∀ i m σ H, W i m σ H →
      ((Itl K a).stop i H ∧ D.nx σ H) ∨ ((Itl K a).go i H ∧ ∃ N : St → Hp → Prop, (∀ σ' H', N σ' H' → ∃ m', m' < m ∧ W (i + 1) m' σ' H') ∧ ∀ x H', (Itl K a).yld i H x H' → g x σ H' fun σ2 H2 => tb { D with nx := N, ct := N, bk := D.nx } σ2 H2) := by
  refine ⟨fun i m σ H => m = xs.length - i ∧ i ≤ xs.length ∧ Pv i σ H, ⟨xs.length, by simp, Nat.zero_le _, h0⟩, ?_⟩
  rintro i m σ H ⟨rfl, hi, p⟩
  have q := hl i σ H hi p
  by_cases hlt : i < xs.length
  · refine .inr ⟨⟨xs, xs[i], q, by simp [hlt]⟩, Pv (i + 1), fun σ' H' p' => ⟨xs.length - (i + 1), by omega, rfl, hlt, p'⟩, fun x H' y => ?_⟩
    obtain ⟨e, y⟩ := y
    subst e
    exact hs i x σ _ (y xs q) p
  · have e : i = xs.length := by omega
    subst e
    exact .inl ⟨⟨xs, q, Nat.le_refl _⟩, hd σ H p⟩
theorem for_range {lo : Int} {n : Nat} {g : TG} {tb : TS} {D : Ends} {σ : St} {H : Hp} (Pv : Nat → St → Hp → Prop) (h0 : Pv 0 σ H)
    (hs : ∀ i σ H, i < n → Pv i σ H → g (.int (lo + i)) σ H fun σ2 H2 => tb { D with nx := Pv (i + 1), ct := Pv (i + 1), bk := D.nx } σ2 H2) (hd : ∀ σ H, Pv n σ H → D.nx σ H) :
    ∃ W : Nat → Nat → St → Hp → Prop, (∃ m, W 0 m σ H) ∧ ∀ i m σ H, W i m σ H →
      ((Itr lo n).stop i H ∧ D.nx σ H) ∨ ((Itr lo n).go i H ∧ ∃ N : St → Hp → Prop, (∀ σ' H', N σ' H' → ∃ m', m' < m ∧ W (i + 1) m' σ' H') ∧ ∀ x H', (Itr lo n).yld i H x H' → g x σ H' fun σ2 H2 => tb { D with nx := N, ct := N, bk := D.nx } σ2 H2) := by
  refine ⟨fun i m σ H => m = n - i ∧ i ≤ n ∧ Pv i σ H, ⟨n, by simp, Nat.zero_le _, h0⟩, ?_⟩
  rintro i m σ H ⟨rfl, hi, p⟩
  by_cases hlt : i < n
  · refine .inr ⟨hlt, Pv (i + 1), fun σ' H' p' => ⟨n - (i + 1), by omega, rfl, hlt, p'⟩, fun x H' y => ?_⟩
    obtain ⟨e, y⟩ := y
    subst e y
    exact hs i σ _ hlt p
  · have e : i = n := by omega
    subst e
    exact .inl ⟨Nat.le_refl _, hd σ H p⟩
end L2
namespace L2
open PySem PySem.Spec PyProof.Rows
abbrev R2 := V → V → Hp → VK → Prop
def OpR (X : Cx) (f : Value → Value → Sem Value) (r : R2) : Prop :=
  ∀ (pins : List (Addr × Obj)) (s : Shared) (σ : St) (H : Hp) (x y : V) (v u : Value) (Q : VK), Inv X pins σ H s → RelV x v → RelV y u → r x y H Q →
    wpAny (model X.prog X.w) X.A (f v u) (EP X pins σ Q) X.xe s
def CallR (X : Cx) (f : Value) (r : List V → Hp → VK → Prop) : Prop :=
  ∀ (pins : List (Addr × Obj)) (s : Shared) (σ : St) (H : Hp) (xs : List V) (us : List Value) (Q : VK), Inv X pins σ H s → Vals xs us → r xs H Q →
    wpAny (model X.prog X.w) X.A (call f us) (EP X pins σ Q) X.xe s
def tOp (r : R2) (ta tb : TE) : TE := fun σ H Q => ta σ H fun x H1 => tb σ H1 fun y H2 => r x y H2 Q
def rI (C : Int → Int → Prop) (g : Int → Int → V) : R2 := fun x y H Q => ∃ i j, x = .int i ∧ y = .int j ∧ C i j ∧ Q (g i j) H
def rI0 (g : Int → Int → V) : R2 := fun x y H Q => ∃ i j, x = .int i ∧ y = .int j ∧ Q (g i j) H
section
variable {X : Cx} {a b c : Expr} {ta tb tc : TE} {pos : Pos}
theorem binT (ha : PE X a ta) (hb : PE X b tb) {pins : List (Addr × Obj)} {s : Shared} {σ : St} {H : Hp} {R : V → V → Hp → Prop} (I : Inv X pins σ H s)
    (h : ta σ H fun x H1 => tb σ H1 fun y H2 => R x y H2) {Q : Value → Shared → Prop} {f : Value → Value → Sem Value}
    (hf : ∀ v u s2 x y H2, Inv X pins σ H2 s2 → RelV x v → RelV y u → R x y H2 → wpAny (model X.prog X.w) X.A (f v u) Q X.xe s2) :
    wpAny (model X.prog X.w) X.A (eval a X.env) (fun v s₁ => wpAny (model X.prog X.w) X.A (eval b X.env) (fun u s₂ => wpAny (model X.prog X.w) X.A (f v u) Q X.xe s₂) X.xe s₁) X.xe s := by
  refine thn (ha pins s σ H _ I h) fun v s1 hz_ => ?_
  obtain ⟨x, H1, I1, r1, q1⟩ := hz_
  refine thn (hb pins s1 σ H1 _ I1 q1) fun u s2 hz_ => ?_
  obtain ⟨y, H2, I2, r2, q2⟩ := hz_
  exact hf v u s2 x y H2 I2 r1 r2 q2
theorem pe_op {op : Operator} {r : R2} (ho : OpR X (binaryOp op) r) (ha : PE X a ta) (hb : PE X b tb) : PE X (.BinOp a op b pos) (tOp r ta tb) := by
  intro pins s σ H Q I h
  exact wpAny_BinOp (binT ha hb I h fun v u s2 x y H2 I2 rx ry q => ho pins s2 σ H2 x y v u Q I2 rx ry q)
theorem opI {f : Value → Value → Sem Value} {C : Int → Int → Prop} {g : Int → Int → Int}
    (rule : ∀ (i j : Int) (t u : Tok) (s : Shared) (Q : Value → Shared → Prop) (E : Value → Shared → Prop), C i j → Q (.int (g i j) s.toks) { s with toks := s.toks + 1 } → wpAny (model X.prog X.w) X.A (f (.int i t) (.int j u)) Q E s) :
    OpR X f (rI C fun i j => .int (g i j)) := by
  intro pins s σ H x y v u Q I rx ry h
  obtain ⟨i, j, rfl, rfl, hc, q⟩ := h
  obtain ⟨t, rfl⟩ := rx
  obtain ⟨t', rfl⟩ := ry
  exact rule i j t t' s _ _ hc ⟨.int (g i j), H, I.tok _, ⟨_, rfl⟩, q⟩
theorem opI0 {f : Value → Value → Sem Value} {g : Int → Int → Int}
    (rule : ∀ (i j : Int) (t u : Tok) (s : Shared) (Q : Value → Shared → Prop) (E : Value → Shared → Prop), Q (.int (g i j) s.toks) { s with toks := s.toks + 1 } → wpAny (model X.prog X.w) X.A (f (.int i t) (.int j u)) Q E s) :
    OpR X f (rI0 fun i j => .int (g i j)) := by
  intro pins s σ H x y v u Q I rx ry h
  obtain ⟨i, j, rfl, rfl, q⟩ := h
  obtain ⟨t, rfl⟩ := rx
  obtain ⟨t', rfl⟩ := ry
  exact rule i j t t' s _ _ ⟨.int (g i j), H, I.tok _, ⟨_, rfl⟩, q⟩
theorem opB0 {f : Value → Value → Sem Value} {g : Int → Int → Bool}
    (rule : ∀ (i j : Int) (t u : Tok) (s : Shared) (Q : Value → Shared → Prop) (E : Value → Shared → Prop), Q (.bool (g i j)) s → wpAny (model X.prog X.w) X.A (f (.int i t) (.int j u)) Q E s) :
    OpR X f (rI0 fun i j => .bl (g i j)) := by
  intro pins s σ H x y v u Q I rx ry h
  obtain ⟨i, j, rfl, rfl, q⟩ := h
  obtain ⟨t, rfl⟩ := rx
  obtain ⟨t', rfl⟩ := ry
  exact rule i j t t' s _ _ ⟨.bl (g i j), H, I, rfl, q⟩
def CDiv (i j : Int) : Prop := 0 < j ∧ j < 1073741824
def CPow (i j : Int) : Prop := 0 ≤ j ∧ j ≤ 1000000 ∧ i.natAbs < 2 ^ 64
def CMul (i j : Int) : Prop := (-(2 ^ 64) < i ∧ i < 2 ^ 64) ∨ (-(2 ^ 64) < j ∧ j < 2 ^ 64)
theorem CMul.ok {i j : Int} (h : CMul i j) : IntMulOk i j := by
  rcases h with ⟨h1, h2⟩ | ⟨h1, h2⟩
  · exact .of_left (intBits_le_64 h1 h2)
  · exact .of_right (intBits_le_64 h1 h2)
theorem op_add : OpR X (binaryOp .Add) (rI0 fun i j => .int (i + j)) := opI0 fun _ _ _ _ _ _ _ q => add_int q
theorem op_sub : OpR X (binaryOp .Sub) (rI0 fun i j => .int (i - j)) := opI0 fun _ _ _ _ _ _ _ q => sub_int q
theorem op_mul : OpR X (binaryOp .Mult) (rI CMul fun i j => .int (i * j)) := opI fun _ _ _ _ _ _ _ hc q => mul_int q hc.ok
theorem op_fdiv : OpR X (binaryOp .FloorDiv) (rI CDiv fun i j => .int (i / j)) := opI fun i j _ _ _ _ _ hc q => by
  have h1 : (0 : Int) < j := hc.1
  have h2 : j < 1073741824 := hc.2
  exact floordiv_int (by omega) (by rw [Int.fdiv_eq_ediv_of_nonneg i (by omega)]; exact q) (.inl (PyProof.noPylong_small (by omega)))
theorem op_mod : OpR X (binaryOp .Mod) (rI (fun _ j => 0 < j) fun i j => .int (i % j)) := opI fun i j _ _ _ _ _ hc q => by
  have h1 : (0 : Int) < j := hc
  exact mod_int' (by omega) (by rw [Int.fmod_eq_emod_of_nonneg i (by omega)]; exact q)
theorem op_pow : OpR X (binaryOp .Pow) (rI CPow fun i j => .int (i ^ j.toNat)) := opI fun _ _ _ _ _ _ _ hc q => pow_int_small hc.1 hc.2.1 hc.2.2 q
end
def scal : V → V → Bool
  | .non, .non => true | .non, .int _ => true | .int _, .non => true | .non, .bl _ => true | .bl _, .non => true | .non, .str _ => true | .str _, .non => true
  | .int _, .int _ => true | .bl _, .bl _ => true | .str _, .str _ => true | .byt _, .byt _ => true
  | .int _, .str _ => true | .str _, .int _ => true | .bl _, .str _ => true | .str _, .bl _ => true
  | _, _ => false
def rEq : R2 := fun x y H Q => scal x y = true ∧ Q (.bl (decide (x = y))) H
def rNe : R2 := fun x y H Q => scal x y = true ∧ Q (.bl (!decide (x = y))) H
theorem dec_int {i j : Int} : decide (V.int i = V.int j) = (i == j) := by
  rw [Bool.eq_iff_iff]
  simp
theorem dec_bl {i j : Bool} : decide (V.bl i = V.bl j) = (i == j) := by
  rw [Bool.eq_iff_iff]
  simp
theorem dec_str {i j : Str} : decide (V.str i = V.str j) = (i == j) := by
  rw [Bool.eq_iff_iff]
  simp
theorem dec_byt {i j : Array UInt8} : decide (V.byt i = V.byt j) = (i.toList == j.toList) := by
  rw [Bool.eq_iff_iff]
  cases i
  cases j
  simp
section
variable {X : Cx} {a b c : Expr} {ta tb tc : TE} {pos : Pos}
theorem fin_bl {pins : List (Addr × Obj)} {σ : St} {H : Hp} {s : Shared} {Q : VK} {k k' : Bool} (I : Inv X pins σ H s) (q : Q (.bl k) H) (e : k = k') : EP X pins σ Q (.bool k') s := by
  subst e
  exact ⟨.bl k, H, I, rfl, q⟩
theorem op_eq : OpR X (compareOp .Eq) rEq := by
  intro pins s σ H x y v u Q I rx ry h
  obtain ⟨hs, q⟩ := h
  cases x with
  | non =>
    cases rx
    cases y with
    | non => cases ry; exact PySem.EqNone.eq_none_none (fin_bl I q (by simp))
    | bl j => cases ry; exact PySem.EqNone.eq_none_bool (fin_bl I q (by simp))
    | int j => obtain ⟨t', rfl⟩ := ry; exact PySem.EqNone.eq_none_int (fin_bl I q (by simp))
    | str j => obtain ⟨t', rfl⟩ := ry; exact PySem.EqNone.eq_none_str (fin_bl I q (by simp))
    | _ => exact absurd (show false = true from hs) Bool.false_ne_true
  | bl i =>
    cases rx
    cases y with
    | non => cases ry; exact PySem.EqNone.eq_bool_none (fin_bl I q (by simp))
    | bl j => cases ry; exact eq_bool (fin_bl I q dec_bl)
    | str j => obtain ⟨t', rfl⟩ := ry; exact PySem.EqMixed.eq_bool_str (fin_bl I q (by simp))
    | _ => exact absurd (show false = true from hs) Bool.false_ne_true
  | int i =>
    obtain ⟨t, rfl⟩ := rx
    cases y with
    | non => cases ry; exact PySem.EqNone.eq_int_none (fin_bl I q (by simp))
    | int j => obtain ⟨t', rfl⟩ := ry; exact eq_int (fin_bl I q dec_int)
    | str j => obtain ⟨t', rfl⟩ := ry; exact PySem.EqMixed.eq_int_str (fin_bl I q (by simp))
    | _ => exact absurd (show false = true from hs) Bool.false_ne_true
  | str i =>
    obtain ⟨t, rfl⟩ := rx
    cases y with
    | non => cases ry; exact PySem.EqNone.eq_str_none (fin_bl I q (by simp))
    | bl j => cases ry; exact PySem.EqMixed.eq_str_bool (fin_bl I q (by simp))
    | int j => obtain ⟨t', rfl⟩ := ry; exact PySem.EqMixed.eq_str_int (fin_bl I q (by simp))
    | str j => obtain ⟨t', rfl⟩ := ry; exact eq_str (fin_bl I q dec_str)
    | _ => exact absurd (show false = true from hs) Bool.false_ne_true
  | byt i =>
    obtain ⟨t, rfl⟩ := rx
    cases y with
    | byt j => obtain ⟨t', rfl⟩ := ry; exact PySem.W.eq_bytes (fin_bl I q dec_byt)
    | _ => exact absurd (show false = true from hs) Bool.false_ne_true
  | _ => cases y <;> exact absurd (show false = true from hs) Bool.false_ne_true
theorem op_ne : OpR X (compareOp .NotEq) rNe := by
  intro pins s σ H x y v u Q I rx ry h
  obtain ⟨hs, q⟩ := h
  cases x with
  | non =>
    cases rx
    cases y with
    | non => cases ry; exact PySem.EqNone.ne_none_none (fin_bl I q (by simp))
    | bl j => cases ry; exact PySem.EqNone.ne_none_bool (fin_bl I q (by simp))
    | int j => obtain ⟨t', rfl⟩ := ry; exact PySem.EqNone.ne_none_int (fin_bl I q (by simp))
    | str j => obtain ⟨t', rfl⟩ := ry; exact PySem.EqNone.ne_none_str (fin_bl I q (by simp))
    | _ => exact absurd (show false = true from hs) Bool.false_ne_true
  | bl i =>
    cases rx
    cases y with
    | non => cases ry; exact PySem.EqNone.ne_bool_none (fin_bl I q (by simp))
    | bl j => cases ry; exact ne_bool (fin_bl I q (congrArg not dec_bl))
    | str j => obtain ⟨t', rfl⟩ := ry; exact PySem.EqMixed.ne_bool_str (fin_bl I q (by simp))
    | _ => exact absurd (show false = true from hs) Bool.false_ne_true
  | int i =>
    obtain ⟨t, rfl⟩ := rx
    cases y with
    | non => cases ry; exact PySem.EqNone.ne_int_none (fin_bl I q (by simp))
    | int j => obtain ⟨t', rfl⟩ := ry; exact ne_int (fin_bl I q (congrArg not dec_int))
    | str j => obtain ⟨t', rfl⟩ := ry; exact PySem.EqMixed.ne_int_str (fin_bl I q (by simp))
    | _ => exact absurd (show false = true from hs) Bool.false_ne_true
  | str i =>
    obtain ⟨t, rfl⟩ := rx
    cases y with
    | non => cases ry; exact PySem.EqNone.ne_str_none (fin_bl I q (by simp))
    | bl j => cases ry; exact PySem.EqMixed.ne_str_bool (fin_bl I q (by simp))
    | int j => obtain ⟨t', rfl⟩ := ry; exact PySem.EqMixed.ne_str_int (fin_bl I q (by simp))
    | str j => obtain ⟨t', rfl⟩ := ry; exact ne_str (fin_bl I q (congrArg not dec_str))
    | _ => exact absurd (show false = true from hs) Bool.false_ne_true
  | byt i =>
    obtain ⟨t, rfl⟩ := rx
    cases y with
    | byt j => obtain ⟨t', rfl⟩ := ry; exact PySem.W.ne_bytes (fin_bl I q (congrArg not dec_byt))
    | _ => exact absurd (show false = true from hs) Bool.false_ne_true
  | _ => cases y <;> exact absurd (show false = true from hs) Bool.false_ne_true
theorem op_lt : OpR X (compareOp .Lt) (rI0 fun i j => .bl (decide (i < j))) := opB0 fun _ _ _ _ _ _ _ q => lt_int q
theorem op_gt : OpR X (compareOp .Gt) (rI0 fun i j => .bl (decide (j < i))) := opB0 fun _ _ _ _ _ _ _ q => gt_int q
theorem op_ge : OpR X (compareOp .GtE) (rI0 fun i j => .bl (decide (j ≤ i))) := opB0 fun _ _ _ _ _ _ _ q => ge_int q
theorem nomark (b : Expr) {op : CmpOp} (h : op ≠ .In := by decide) (h2 : op ≠ .NotIn := by decide) : behindInMarks op b = false := by
  have e1 : (op == CmpOp.In) = false := by cases op <;> first | rfl | exact absurd rfl h
  have e2 : (op == CmpOp.NotIn) = false := by cases op <;> first | rfl | exact absurd rfl h2
  cases b <;> simp [behindInMarks, e1, e2]
theorem pe_cmpR {op : CmpOp} {r : R2} (ho : OpR X (compareOp op) r) (ha : PE X a ta) (hb : PE X b tb) (hm : behindInMarks op b = false) : PE X (.Compare a [op] [b] pos) (tOp r ta tb) := by
  intro pins s σ H Q I h
  exact wpAny_Compare1 (binT ha hb I h fun v u s2 x y H2 I2 rx ry q => ho pins s2 σ H2 x y v u Q I2 rx ry q) hm
def tTest (t : TE) : TT := fun σ H Q => t σ H fun x H' => ∃ k, x = .bl k ∧ Q k H'
theorem pt_cmpR {op : CmpOp} {r : R2} (ho : OpR X (compareOp op) r) (ha : PE X a ta) (hb : PE X b tb) (hm : behindInMarks op b = false) : PT X (.Compare a [op] [b] pos) (tTest (tOp r ta tb)) := by
  intro pins s σ H Q I h
  refine wpAny_isTrue_Compare1 (thn (ha pins s σ H _ I h) fun v s1 ⟨x, H1, I1, r1, q1⟩ => thn (hb pins s1 σ H1 _ I1 q1) fun u s2 ⟨y, H2, I2, r2, q2⟩ =>
    thn (ho pins s2 σ H2 x y v u _ I2 r1 r2 q2) fun c s3 ⟨z, H3, I3, r3, k, e, q3⟩ => ?_) hm
  subst e
  cases r3
  exact wpAny_truthy_bool ⟨H3, I3, q3⟩
theorem line63 : (sizeLine : Nat) < 2 ^ 63 := by rw [sizeLine_eq]; decide
theorem op_add_str : OpR X (binaryOp .Add) (fun x y H Q => ∃ i j, x = .str i ∧ y = .str j ∧ i.length + j.length ≤ sizeLine ∧ Q (.str (i ++ j)) H) := by
  intro pins s σ H x y v u Q I rx ry h
  obtain ⟨i, j, rfl, rfl, hz, q⟩ := h
  obtain ⟨t, rfl⟩ := rx
  obtain ⟨t', rfl⟩ := ry
  exact add_str (fun t' tk => ⟨.str (i ++ j), H, I.tok _, ⟨_, rfl⟩, q⟩) hz
theorem vals1 {x : V} {us : List Value} (r : Vals [x] us) : ∃ u, us = [u] ∧ RelV x u := by
  cases r with
  | cons r1 r2 => cases r2; exact ⟨_, rfl, r1⟩
theorem vals2 {x y : V} {us : List Value} (r : Vals [x, y] us) : ∃ u w', us = [u, w'] ∧ RelV x u ∧ RelV y w' := by
  cases r with
  | cons r1 r2 =>
    cases r2 with
    | cons r3 r4 => cases r4; exact ⟨_, _, rfl, r1, r3⟩
theorem call_max2 (hc : X.calm = true) : CallR X (.builtin "max") (fun xs H Q => ∃ i j, xs = [.int i, .int j] ∧ Q (.int (if j > i then j else i)) H) := by
  intro pins s σ H xs us Q I r h
  obtain ⟨i, j, rfl, q⟩ := h
  obtain ⟨u, w', rfl, ⟨t, rfl⟩, ⟨t', rfl⟩⟩ := vals2 r
  refine max_two_ints (I.ok.hd hc) fun h' tk k => ⟨_, H, I.kept k, ?_, q⟩
  by_cases hj : j > i
  · rw [if_pos hj, if_pos hj]; exact ⟨_, rfl⟩
  · rw [if_neg hj, if_neg hj]; exact ⟨_, rfl⟩
theorem call_int1 : CallR X (.type "int") (fun xs H Q => (∃ i, xs = [.int i] ∧ Q (.int i) H) ∨ ∃ k, xs = [.bl k] ∧ Q (.int (if k then 1 else 0)) H) := by
  intro pins s σ H xs us Q I r h
  rcases h with ⟨i, rfl, q⟩ | ⟨k, rfl, q⟩
  · obtain ⟨u, rfl, t, rfl⟩ := vals1 r
    exact call_int_int ⟨.int i, H, I, ⟨_, rfl⟩, q⟩
  · obtain ⟨u, rfl, r1⟩ := vals1 r
    cases r1
    exact call_int_bool ⟨.int (if k then 1 else 0), H, I.tok _, ⟨_, rfl⟩, q⟩
end
end L2
namespace L2
open PySem PySem.Spec PyProof.Rows
structure ObjM (h : Heap) (x dx C : Addr) (mA : Str → Option Value) : Prop where
  obj : h.get? x = some (PySem.W.instObj C dx)
  ns : h.Ns1 dx mA
  ne : dx ≠ x
theorem lookIn_ns {h : Heap} {dx : Addr} {mA : Str → Option Value} (n : h.Ns1 dx mA) : ∃ od, h.get? dx = some od ∧ ∀ name, PySem.W.lookIn name od = some (mA name) := by
  obtain ⟨o, es, ep, ho, hd, hk, _, hm⟩ := n
  refine ⟨o, ho, fun name => ?_⟩
  have e := hm name
  unfold nsFind findBy at e
  rw [← Array.find?_toList] at e
  unfold PySem.W.lookIn
  rw [hd]
  dsimp only
  split
  · rename_i y q
    rw [q] at e
    exact congrArg some e
  · rename_i q
    rw [q] at e
    have a : es.toList.any (·.refKey) = false := by
      rw [List.any_eq_false]
      intro y hy
      obtain ⟨z, t, hkey⟩ := hk y (Array.mem_toList_iff.mp hy)
      simp [DictEntry.refKey, hkey]
    have a' : ¬ es.toList.any (·.refKey) = true := by rw [a]; exact Bool.false_ne_true
    rw [if_neg a']
    exact congrArg some e
theorem ObjM.look {h : Heap} {x dx C : Addr} {mA : Str → Option Value} (I : ObjM h x dx C mA) : ∃ od, PySem.W.InstAt h x (PySem.W.instObj C dx) C (some od) ∧ ∀ name, PySem.W.lookIn name od = some (mA name) :=
  let ⟨od, ho, hl⟩ := lookIn_ns I.ns
  ⟨od, ⟨I.obj, rfl, rfl, ho⟩, hl⟩
section
variable {prog : Program} {w : World} {A : Around} {E : Value → Shared → Prop} {s : Shared} {K : PySem.W.Frag} {x dx C f : Addr} {mA : Str → Option Value} {name : Str} {v : Value}
end
section
variable {P : Program} {w : World} {H H' : Hp} {h h' : Heap} {a C dx : Addr} {fs fs' : List (Str × V)}
theorem ins_get (hok : HOk P w H h) (e : H a = some (.ins C dx fs)) : ∃ mA, ObjM h a dx C mA ∧ (∀ f, RelO (fs.lookup f) (mA f)) ∧ PySem.Within mA (fs.map (·.1)) ∧ fs.length ≤ 1000 ∧ H dx = some (.own a) := by
  obtain ⟨d, z, ne, ob, mA, n, r, q⟩ := (show ObjOk P w H h a (.ins C dx fs) from hok a _ e)
  exact ⟨mA, ⟨ob, n, ne⟩, r, q, z, d⟩
end
structure Cls (K : PySem.W.Frag) (C : Addr) : Prop where
  pg : PySem.W.plainGet K C Str.empty = true
  hd : PySem.W.hasDictIn K C = true
  po : PySem.W.plainOver K C = true
  sa : PySem.W.findIn K (.ref C) "__setattr__" = some (some (.builtin "object.__setattr__"))
theorem Cls.get {K : PySem.W.Frag} {C : Addr} (c : Cls K C) (f : Str) : PySem.W.plainGet K C f = true := c.pg
section
variable {X : Cx} {pins : List (Addr × Obj)} {σ : St} {H : Hp} {s : Shared} {a C dx : Addr} {fs : List (Str × V)} {f : Str} {v : V} {A : Around} {E : Value → Shared → Prop}
end
section
variable {X : Cx} {o e value : Expr} {f : Str} {pos pos' tpos : Pos} {ta tv : TE}
end
section
variable {X : Cx} {pins : List (Addr × Obj)} {σ : St} {H : Hp} {s : Shared} {A : Around} {E : Value → Shared → Prop} {Q : Value → Shared → Prop} {c : Value} {b : Bool}
inductive TyOf (K : PySem.W.Frag) (H : Hp) : V → Value → Prop where
  | non : TyOf K H .non (.type "NoneType")
  | bl (x : Bool) : TyOf K H (.bl x) (.type "bool")
  | int (i : Int) : TyOf K H (.int i) (.type "int")
  | str (x : Str) : TyOf K H (.str x) (.type "str")
  | flt (x : UInt64) : TyOf K H (.flt x) (.type "float")
  | lst {a : Addr} {xs : List V} (e : H a = some (.lst xs)) : TyOf K H (.ref a) (.type "list")
  | frz {a : Addr} {o : Obj} {xs : List V} (e : H a = some (.frz o (.lst xs))) : TyOf K H (.ref a) (.type "list")
  | tup {a : Addr} {xs : List V} (e : H a = some (.tup xs)) : TyOf K H (.ref a) (.type "tuple")
  | dK {a : Addr} {kvs : List (Key × V)} (e : H a = some (.dK kvs)) : TyOf K H (.ref a) (.type "dict")
  | dT {a : Addr} {kvs : List (List Key × V)} (e : H a = some (.dT kvs)) : TyOf K H (.ref a) (.type "dict")
  | ins {a C dx : Addr} {fs : List (Str × V)} (e : H a = some (.ins C dx fs)) (cl : Cls K C) (ha : PySem.W.findIn K (.ref C) "__class__" = some (some (.builtin "object.__class__")))
      (hn : PySem.W.specialIn K (.builtin "object.__class__") "__get__" = some (some (.builtin "getset_descriptor.__get__"))) (htk : PySem.W.takesIn K (.builtin "object.__class__") = some true)
      (hm : PySem.W.mroIn K C (.type "object") = some true) : TyOf K H (.ref a) (.ref C)
end
end L2
namespace L2
open PySem PySem.Spec PyProof.Rows
structure Room (k : Nat) (A : Around) : Prop where
  hd : A.handled = none
  dp : A.depth + 3 * k + 5 < recursionLimit
  un : A.units + 16 * k + 200 < cLine
theorem Room.mono {j k : Nat} {A : Around} (r : Room k A) (h : j ≤ k) : Room j A := ⟨r.hd, by have := r.dp; omega, by have := r.un; omega⟩
theorem Room.deeper {k : Nat} {A : Around} (r : Room (k + 1) A) (env : Env) : Room k (A.deeper env) :=
  ⟨r.hd, by have := r.dp; show A.depth + 1 + 3 * k + 5 < _; omega, by have := r.un; show A.units + 3 + 16 * k + 200 < _; omega⟩
theorem Room.depth {k : Nat} {A : Around} (r : Room k A) : A.depth < recursionLimit := by have := r.dp; omega
theorem Room.units {k : Nat} {A : Around} (r : Room k A) : A.units + 64 < cLine := by have := r.un; omega
def tNil : TA := fun _ H Q => Q [] H
def tCons (ta : TE) (tr : TA) : TA := fun σ H Q => ta σ H fun x H1 => tr σ H1 fun xs H2 => Q (x :: xs) H2
section
variable {X : Cx} {e : Expr} {es : List Expr} {te : TE} {t : TA} {pos : Pos}
theorem pa_nil : PA X [] tNil := fun _ _ _ _ H Q I h => Calls.spliced_nil ⟨[], H, I, .nil, h⟩
theorem pa_cons (ha : PE X e te) (hr : PA X es t) (hs : starEach (e :: es) X.env = (false, eval e X.env) :: starEach es X.env := by rfl) : PA X (e :: es) (tCons te t) := by
  intro pos pins s σ H Q I h
  rw [hs]
  show wpAny _ _ (spliced ((false, eval e X.env) :: backTo pos (starEach es X.env))) _ _ s
  refine Calls.spliced_cons (thn (ha pins s σ H _ I h) fun u s1 hz_ => ?_)
  obtain ⟨x, H1, I1, r1, q1⟩ := hz_
  exact thn (hr pos pins s1 σ H1 _ I1 q1) fun us s2 ⟨xs, H2, I2, r2, q2⟩ => ⟨x :: xs, H2, I2, .cons r1 r2, q2⟩
def tTup (t : TA) : TE := fun σ H Q => t σ H fun xs H1 => xs.length ≤ sizeLine ∧ ∀ p, H1 p = none → Q (.ref p) (upd H1 p (.tup xs))
def tLst (t : TA) : TE := fun σ H Q => t σ H fun xs H1 => xs.length ≤ sizeLine ∧ ∀ p, H1 p = none → Q (.ref p) (upd H1 p (.lst xs))
theorem pe_tup {x1} (h : PA X es t) : PE X (.Tuple es x1 pos) (tTup t) := by
  intro pins s σ H Q I hq
  refine wpAny_Tuple_spliced (thn (h pos pins s σ H _ I hq) fun us s1 ⟨xs, H1, I1, r, z, q⟩ => ⟨by rw [← r.length]; exact z, ?_⟩)
  have hf : H1 s1.heap.objs.size = none := I1.hok.fresh (Nat.le_refl _)
  refine ⟨.ref s1.heap.objs.size, upd H1 s1.heap.objs.size (.tup xs), I1.laid (t' := s1.toks) (fun b u e => Heap.get?_push_of_some _ e) (Nat.le_refl _) ?_, rfl, q _ hf⟩
  exact ⟨z, us, r, ⟨_, Heap.get?_push_size _ rfl, rfl, _, rfl⟩⟩
theorem pe_lst (h : PA X es t) : PE X (.List es pos) (tLst t) := by
  intro pins s σ H Q I hq
  refine wpAny_List_spliced (thn (h pos pins s σ H _ I hq) fun us s1 ⟨xs, H1, I1, r, z, q⟩ => ⟨by rw [← r.length]; exact z, ?_⟩)
  have hf : H1 s1.heap.objs.size = none := I1.hok.fresh (Nat.le_refl _)
  refine ⟨.ref s1.heap.objs.size, upd H1 s1.heap.objs.size (.lst xs), I1.laid (t' := s1.toks) (fun b u e => Heap.get?_push_of_some _ e) (Nat.le_refl _) ?_, rfl, q _ hf⟩
  exact ⟨z, us, 0, r, Heap.get?_push_size _ rfl⟩
end
abbrev Sp := List V → Hp → VK → XK → Prop
abbrev CXT := List Env → Hp → Shared → XK → Value → Shared → Prop
structure Env0 (P : Program) (w : World) (K : PySem.W.Frag) (mg : Str → Option Value) (base : Heap) (A : Around) (outer : List Env) (s : Shared) (H : Hp) : Prop where
  frames : A.frames = some outer
  mod : Mod K mg base
  bs : ∀ b o, base.get? b = some o → s.heap.get? b = some o ∧ H b = none
  bsz : base.objs.size ≤ s.heap.objs.size
  funs : s.heap.FunFrames base outer
  frf : ∀ b ∈ frs outer, H b = none
  hok : HOk P w H s.heap
  bare : AllBare s.gens
def CE (outer : List Env) (P : Program) (w : World) (H : Hp) (s : Shared) (Q : VK) (u : Value) (s' : Shared) : Prop :=
  ∃ v H', s'.os = s.os ∧ AllBare s'.gens ∧ Un (frs outer) [] H H' s.heap s'.heap ∧ HOk P w H' s'.heap ∧ RelV v u ∧ Q v H'
def CR (CX : CXT) (outer : List Env) (P : Program) (w : World) (H : Hp) (s : Shared) (Q : VK) (E : XK) (r : Result) (s' : Shared) : Prop :=
  match r with
  | .ok (.ret u) => CE outer P w H s Q u s'
  | .ok _ => False
  | .error e => CX outer H s E e s'
structure FnOk (P : Program) (w : World) (K : PySem.W.Frag) (mg : Str → Option Value) (base : Heap) (CX : CXT) (k : Nat) (f : Addr) (fd : FuncData) (ps : List Str) (sp : Sp) : Prop where
  len : ∀ vs H Q E, sp vs H Q E → vs.length = ps.length
  run : ∀ (A : Around) (outer : List Env) (s : Shared) (H : Hp) (args : Args) (us : List Value) (vs : List V) (Q : VK) (E : XK), Room k A → Env0 P w K mg base A outer s H → BindsTo s fd args (ps.zip us) → Vals vs us → sp vs H Q E →
    codeAny (model P w) A (.call (.ref f) args) (CR CX outer P w H s Q E) s
section
variable {X : Cx} {pins : List (Addr × Obj)} {σ : St} {H : Hp} {s s' : Shared}
theorem Inv.env0 (I : Inv X pins σ H s) : Env0 X.prog X.w X.K X.mg X.base X.A X.stack s H :=
  ⟨I.ok.frames, I.ok.mod, I.bs, Nat.le_trans I.ok.bsz I.sz, I.stack, I.stkFree, I.hok, I.bare⟩
theorem Inv.after {Q : VK} {u : Value} (I : Inv X pins σ H s) (h : CE X.stack X.prog X.w H s Q u s') : EP X pins σ Q u s' := by
  obtain ⟨v, H', os, bare, un, hok, r, q⟩ := h
  obtain ⟨hh, g, d, t, os'⟩ := s'
  obtain rfl : os' = s.os := os
  exact ⟨v, H', I.call (h' := hh) (g' := g) (d' := d) (t' := t) (ch := []) un hok bare (fun b z => absurd z (by simp)), r, q⟩
end
def Binds (K : PySem.W.Frag) (fd : FuncData) (ps : List Str) (ds : List Value) : Prop :=
  ∀ (s : Shared) (us : List Value), K.In s.heap → (us ++ ds).length = ps.length → BindsTo s fd ⟨us, []⟩ (ps.zip (us ++ ds))
theorem Binds.all {K : PySem.W.Frag} {fd : FuncData} {ps : List Str} (h : ∀ us : List Value, us.length = ps.length → bindArgs fd ⟨us, []⟩ = pure (ps.zip us)) : Binds K fd ps [] := fun s us _ hl => by
  rw [List.append_nil] at hl ⊢
  exact .of_eq (h us hl)
section
variable {X : Cx} {CX : CXT} {k : Nat} {f C : Addr} {fd : FuncData} {ps : List Str} {sp : Sp} {dvs : List V} {ds : List Value} {E : XK} {x m : Str} {p pos apos : Pos} {e o : Expr} {es : List Expr} {ta : TE} {t : TA}
end
section
variable {X : Cx} {CX : CXT} {k : Nat} {f C : Addr} {fd : FuncData} {ps ks : List Str} {sp : Sp} {E : XK} {x m : Str} {p pos apos kpos : Pos} {e o : Expr} {es : List Expr} {kws : List Keyword} {te ta : TE} {t tk : TA} {nm : Option Str}
variable {g : List Value → List Value → List Value} {gV : List V → List V → List V}
end
structure FnScope (N P : List Str) (sc : Scope) : Prop where
  kind : sc.kind = .function
  co : sc.isCoroutine = false
  gen : sc.isGenerator = false
  nd : N.Nodup
  pre : N.take P.length = P
  par : ∀ x ∈ P, sc.names.lookup x = some .local ∨ sc.names.lookup x = some .cell
  nofree : ∀ y ∈ sc.names, y.2 ≠ .free
theorem bindL_out {kindOf : Str → Option NameKind} {x : Str} : ∀ {binds : List (Str × Value)} {m : Str → Option Value}, (∀ v, (x, v) ∉ binds) → bindL kindOf binds m x = m x
  | [], _, _ => rfl
  | (n, v) :: r, m, h => by
    unfold bindL
    rw [bindL_out fun w hw => h w (List.mem_cons_of_mem _ hw)]
    split
    · have : x ≠ n := by rintro rfl; exact h v List.mem_cons_self
      simp [this]
    · rfl
theorem bindC_out {kindOf : Str → Option NameKind} {x : Str} : ∀ {binds : List (Str × Value)} {m : Str → Option Value}, (∀ v, (x, v) ∉ binds) → bindC kindOf binds m x = m x
  | [], _, _ => rfl
  | (n, v) :: r, m, h => by
    unfold bindC
    rw [bindC_out fun w hw => h w (List.mem_cons_of_mem _ hw)]
    split
    · rfl
    · have : x ≠ n := by rintro rfl; exact h v List.mem_cons_self
      simp [this]
theorem bindL_get {kindOf : Str → Option NameKind} {x : Str} {v : Value} : ∀ {P : List Str} {vs : List Value} {i : Nat} {m : Str → Option Value}, P.Nodup → P[i]? = some x → vs[i]? = some v → kindOf x = some .local →
    bindL kindOf (P.zip vs) m x = some v
  | [], _, _, _, _, h, _, _ => by simp at h
  | _ :: _, [], _, _, _, _, h, _ => by simp at h
  | p :: P, w :: vs, 0, m, nd, h1, h2, hk => by
    simp at h1 h2; subst h1; subst h2
    show bindL kindOf ((p, w) :: P.zip vs) m p = _
    unfold bindL
    rw [bindL_out fun v hv => (List.nodup_cons.mp nd).1 (List.of_mem_zip hv).1, if_pos hk]
    simp
  | p :: P, w :: vs, i + 1, m, nd, h1, h2, hk => by
    show bindL kindOf ((p, w) :: P.zip vs) m x = _
    unfold bindL
    exact bindL_get (i := i) (List.nodup_cons.mp nd).2 (by simpa using h1) (by simpa using h2) hk
theorem bindC_get {kindOf : Str → Option NameKind} {x : Str} {v : Value} : ∀ {P : List Str} {vs : List Value} {i : Nat} {m : Str → Option Value}, P.Nodup → P[i]? = some x → vs[i]? = some v → kindOf x ≠ some .local →
    bindC kindOf (P.zip vs) m x = some v
  | [], _, _, _, _, h, _, _ => by simp at h
  | _ :: _, [], _, _, _, _, h, _ => by simp at h
  | p :: P, w :: vs, 0, m, nd, h1, h2, hk => by
    simp at h1 h2; subst h1; subst h2
    show bindC kindOf ((p, w) :: P.zip vs) m p = _
    unfold bindC
    rw [bindC_out fun v hv => (List.nodup_cons.mp nd).1 (List.of_mem_zip hv).1, if_neg hk]
    simp
  | p :: P, w :: vs, i + 1, m, nd, h1, h2, hk => by
    show bindC kindOf ((p, w) :: P.zip vs) m x = _
    unfold bindC
    exact bindC_get (i := i) (List.nodup_cons.mp nd).2 (by simpa using h1) (by simpa using h2) hk
def start (N : List Str) (vs : List V) : St := vs.map some ++ List.replicate (N.length - vs.length) none
def cxOf (CX : CXT) (P : Program) (w : World) (K : PySem.W.Frag) (mg : Str → Option Value) (base : Heap) (N : List Str) (qual : Str) (scope : Scope) (f : Addr) (cd : Value) (A : Around) (outer : List Env) (s : Shared) (H : Hp) (E : XK) : Cx where
  prog := P
  w := w
  K := K
  mg := mg
  base := base
  A := A.deeper (envOfC qual scope s.heap.objs.size f cd)
  N := N
  s₀ := s
  H₀ := H
  env := envOfC qual scope s.heap.objs.size f cd
  outer := outer
  stack := envOfC qual scope s.heap.objs.size f cd :: outer
  ex := []
  calm := true
  fn := fun _ => true
  pn := []
  xe := fun e s' => wpAny (model P w) (A.deeper (envOfC qual scope s.heap.objs.size f cd)) (leaving (envOfC qual scope s.heap.objs.size f cd) e) (fun _ s'' => CX outer H s E e s'') (fun e' s'' => CX outer H s E e' s'') s'
theorem cell_has {sc : Scope} {n : Nat} {x : Str} (h : sc.names.lookup x = some .cell) : ∃ c, (cellsFrom n sc.names []).lookup x = some c := by
  have q := PySem.W.cellsFrom_some sc.names n [] (.inl h)
  exact Option.isSome_iff_exists.mp q
theorem inv_start {CX : CXT} {P : Program} {w : World} {K : PySem.W.Frag} {mg : Str → Option Value} {base : Heap} {N ps : List Str} {qual : Str} {scope : Scope} {f : Addr} {cd : Value} {A : Around} {outer : List Env} {s s1 : Shared} {H : Hp} {E : XK} {us : List Value} {vs : List V}
    (S : FnScope N ps scope) (hd : A.handled = none) (e0 : Env0 P w K mg base A outer s H) (hl : vs.length = ps.length) (r : Vals vs us)
    (x : InCallC s s.heap.objs.size (bindL (envOfC qual scope s.heap.objs.size f cd).kindOf (ps.zip us) fun _ => none) (cellsFrom (s.heap.objs.size + 1) scope.names []) (bindC (envOfC qual scope s.heap.objs.size f cd).kindOf (ps.zip us) fun _ => none) s1) :
    Inv (cxOf CX P w K mg base N qual scope f cd A outer s H E) [] (start N vs) H s1 := by
  have hpl : ps.length ≤ N.length := by have := congrArg List.length S.pre; rw [List.length_take] at this; omega
  obtain ⟨h1, tk, rfl, hk⟩ := x.done
  have noA : ∀ b : Addr, b ∉ (cxOf CX P w K mg base N qual scope f cd A outer s H E).ex := fun b z => absurd (show b ∈ ([] : List Addr) from z) (by simp)
  refine ⟨⟨e0.mod, S.kind, rfl, rfl, Nat.le_refl _, fun y z c h1 h2 => ?_, fun y hy => ?_, fun y c _ h => ?_, fun _ => hd, Around.frames_deeper e0.frames, .inr ⟨rfl, rfl⟩, fun b z => absurd z (noA b), e0.bs, e0.bsz, fun b _ _ => noA b, fun b z => absurd z (noA b), e0.funs, e0.frf⟩,
    rfl, e0.bare, Un.kept hk, ⟨_, x.toInCall.ns, fun i y v h1 h2 h3 => ?_⟩, fun y c h => ⟨_, x.cell y c h⟩, e0.hok.fresh (Nat.le_refl _), fun y c h => ?_, fun p hp => absurd (show p ∈ ([] : List (Addr × Obj)) from hp) (by simp), e0.hok.kept hk, ?_⟩
  · exact name_of_addr x.apart (PySem.mem_of_lookup h1) (PySem.mem_of_lookup h2)
  · have hy : scope.names.lookup y = some .cell ∨ scope.names.lookup y = some .free := hy
    rcases hy with hy | hy
    · exact cell_has hy
    · exact absurd rfl (S.nofree _ (PySem.mem_of_lookup hy))
  · exact Nat.le_of_lt (x.above y c (PySem.mem_of_lookup h))
  · have hi : i < vs.length := by
      unfold start at h2
      by_cases hi : i < vs.length
      · exact hi
      · rw [List.getElem?_append_right (by simpa using hi)] at h2
        rw [List.getElem?_replicate] at h2
        split at h2 <;> cases h2
    have ha : vs[i]? = some v := by
      unfold start at h2
      rw [List.getElem?_append_left (by simpa using hi), List.getElem?_map] at h2
      cases e : vs[i]? with
      | none => rw [e] at h2; cases h2
      | some a => rw [e] at h2; cases h2; rfl
    obtain ⟨u, hu, rv⟩ := r.get ha
    have hp : ps[i]? = some y := by
      rw [← S.pre, List.getElem?_take_of_lt (by omega)]; exact h1
    have ndP : ps.Nodup := by rw [← S.pre]; exact S.nd.sublist (List.take_sublist _ _)
    refine ⟨u, rv, ?_⟩
    rcases S.par y (List.mem_of_getElem? hp) with k | k
    · exact .inl ⟨k, bindL_get ndP hp hu k⟩
    · obtain ⟨c, e⟩ := cell_has (n := s.heap.objs.size + 1) k
      refine .inr ⟨.inl k, c, e, ?_⟩
      have q := x.cell y c e
      rw [bindC_get ndP hp hu (by show scope.names.lookup y ≠ _; rw [k]; decide)] at q
      exact q
  · exact e0.hok.fresh (Nat.le_of_lt (x.above y c (PySem.mem_of_lookup h)))
  · unfold start
    show _ = N.length
    rw [List.length_append, List.length_map, List.length_replicate]
    omega
theorem fn_of {CX : CXT} {P : Program} {w : World} {K : PySem.W.Frag} {mg : Str → Option Value} {base : Heap} {k : Nat} {f : Addr} {name qual : Str} {params : Arguments} {body : List Stmt} {scope : Scope} {dV kV doc pm cdv ct oc : Value} {an od : Option Addr}
    {osl : Array (Option Value)} {N ps : List Str} {sp : Sp} (lk : K.lookup f = some ⟨oc, od, .func (PySem.W.fnOf name qual params body scope dV kV doc pm an cdv ct), osl⟩) (hcd : PySem.W.codeIn K cdv qual = true) (S : FnScope N ps scope)
    (len : ∀ vs H Q E, sp vs H Q E → vs.length = ps.length)
    (hbody : ∀ (A : Around) (outer : List Env) (s : Shared) (H : Hp) (vs : List V) (Q : VK) (E : XK), Room k (A.deeper (envOfC qual scope s.heap.objs.size f cdv)) → sp vs H Q E →
      ∃ t, PSs (cxOf CX P w K mg base N qual scope f cdv A outer s H E) body t ∧ t { nx := fun _ H' => Q .non H', rt := Q } (start N vs) H) :
    FnOk P w K mg base CX (k + 1) f (PySem.W.fnOf name qual params body scope dV kV doc pm an cdv ct) ps sp := by
  refine ⟨len, fun A outer s H args us vs Q E hr e0 hb r hsp => ?_⟩
  have hl := len _ _ _ _ hsp
  have KX : K.In s.heap := e0.mod.kin.keeps fun b o e => (e0.bs b o e).1
  have lim : s.heap.NoLimit := e0.mod.nolimit.keeps fun b o e => (e0.bs b o e).1
  have hkind : ∀ y ∈ ps.zip us, scope.names.lookup y.1 = some .local ∨ (scope.names.lookup y.1 = some .cell ∧ ((cellsFrom (s.heap.objs.size + 1) scope.names []).lookup y.1).isSome = true) := fun ⟨n, v⟩ hy => by
    rcases S.par n (List.of_mem_zip hy).1 with q | q
    · exact .inl q
    · exact .inr ⟨q, PySem.W.cellsFrom_some _ _ _ (.inl q)⟩
  refine codeAny_call_function hr.depth (KX _ _ lk) rfl S.co S.gen rfl (PySem.W.codeRec_of KX hcd) (hb _ _ _ _ ?_)
  refine wpAny_newFunctionEnv_cells S.kind hkind fun env he s1 x => ?_
  subst he
  refine ⟨lim.keeps x.toInCall.keep, codeAny_func ?_⟩
  obtain ⟨t, ht, hq⟩ := hbody A outer s H vs Q E (hr.deeper _) hsp
  have I : Inv (cxOf CX P w K mg base N qual scope f cdv A outer s H E) [] (start N vs) H s1 := inv_start S hr.hd e0 hl r x
  refine wpAny_mono (ht [] s1 (start N vs) H _ I hq) (fun fl s' hs => ?_) fun e s' hs => hs
  have fin : ∀ {σ' : St} {H' : Hp} {v : V} {u : Value}, Inv (cxOf CX P w K mg base N qual scope f cdv A outer s H E) [] σ' H' s' → RelV v u → Q v H' → CE outer P w H s Q u s' :=
    fun {σ' H' v u} J rv q => ⟨v, H', J.os, J.bare, J.base, J.hok, rv, q⟩
  cases fl with
  | ret u =>
    obtain ⟨v, σ', H', J, rv, q⟩ := hs
    exact fin J rv q
  | next =>
    obtain ⟨σ', H', J, q⟩ := hs
    exact fin (v := V.non) (u := Value.none) J rfl q
  | brk =>
    obtain ⟨_, _, _, q⟩ := hs
    exact False.elim q
  | cont =>
    obtain ⟨_, _, _, q⟩ := hs
    exact False.elim q
end L2
namespace L2
open PySem PySem.Spec PyProof.Rows
section
variable {X : Cx} {x : Str} {p pos : Pos} {e : Expr} {es : List Expr} {t : TA} {id T : String} {r : List V → Hp → VK → Prop}
def tCB (r : List V → Hp → VK → Prop) (t : TA) : TE := fun σ H Q => t σ H fun vs H1 => r vs H1 Q
theorem pe_callB (hc : CallR X (.builtin id) r) (hg : Gl X x) (hm : X.mg x = none) (hv : bootBuiltins x = some (.builtin id)) (ha : PA X (e :: es) t) (hn : x ≠ "__name__" := by decide) (hdb : (x == ("__debug__" : Str)) = false := by decide)
    (he : starEach (e :: es) X.env = (false, eval e X.env) :: starEach es X.env := by rfl) (hpl : (backTo pos (starEach es X.env)).any (·.1) = false := by rfl) : PE X (.Call (.Name x p) (e :: es) [] pos) (tCB r t) := by
  intro pins s σ H Q I h
  refine wpAny_Call_Name_kw (ld_blt I hg hm hv ?_ hn hdb)
  exact PyProof.Rows.callWith_builtin1 (thn (ha pos pins s σ H _ I h) fun us s1 ⟨vs, H1, I1, r1, q1⟩ => hc pins s1 σ H1 vs us Q I1 r1 q1) he hpl
theorem pe_callTy (hc : CallR X (.type T) r) (hg : Gl X x) (hm : X.mg x = none) (hv : bootBuiltins x = some (.type T)) (ha : PA X (e :: es) t) (hn : x ≠ "__name__" := by decide) (hdb : (x == ("__debug__" : Str)) = false := by decide)
    (he : starEach (e :: es) X.env = (false, eval e X.env) :: starEach es X.env := by rfl) (hpl : (backTo pos (starEach es X.env)).any (·.1) = false := by rfl) : PE X (.Call (.Name x p) (e :: es) [] pos) (tCB r t) := by
  intro pins s σ H Q I h
  refine wpAny_Call_Name_kw (ld_blt I hg hm hv ?_ hn hdb)
  exact PyProof.Rows.callWith_type1 (thn (ha pos pins s σ H _ I h) fun us s1 ⟨vs, H1, I1, r1, q1⟩ => hc pins s1 σ H1 vs us Q I1 r1 q1) he hpl
end
end L2
namespace HT
open PySem PyProof.Rows
section
open PySem.SeqAt
open PySem.AutoSeq1 (wpAny_loadPart')
open PySem.MeetsSeq PySem.MeetsSeq2 PySem.MeetsSeq3
end
section
variable {prog : Program} {w : World} {A : Around} {E : Value → Shared → Prop} {s : Shared}
def sIx (n d : Nat) : Option Int → Nat
  | none => d
  | some v => if v < 0 then (v + (n : Int)).toNat else min v.toNat n
end
end HT
namespace L2
open PySem PySem.Spec PyProof.Rows
abbrev TO := St → Hp → (Option Int → Hp → Prop) → Prop
def PO (X : Cx) (e : Option Expr) (t : TO) : Prop :=
  ∀ (pins : List (Addr × Obj)) (s : Shared) (σ : St) (H : Hp) (Q : Option Int → Hp → Prop), Inv X pins σ H s → t σ H Q →
    wpAny (model X.prog X.w) X.A (evalPart e X.env) (fun u s' => ∃ o H', Inv X pins σ H' s' ∧ IsPart u o ∧ Q o H') X.xe s
def tPart (t : TE) : TO := fun σ H Q => t σ H fun x H1 => ∃ i, x = .int i ∧ Q (some i) H1
section
variable {X : Cx} {e : Expr} {te : TE} {lo hi : Option Expr} {tl th : TO} {pos p2 : Pos}
theorem po_some (h : PE X e te) : PO X (some e) (tPart te) := by
  intro pins s σ H Q I hw
  rw [evalPart_some]
  refine thn (h pins s σ H _ I hw) fun u s1 hz_ => ?_
  obtain ⟨x, H1, I1, r1, q1⟩ := hz_
  obtain ⟨i, rfl, q⟩ := q1
  obtain ⟨t, rfl⟩ := r1
  exact ⟨some i, H1, I1, .int i t, q⟩
def SlR (X : Cx) (r : V → Option Int → Option Int → Hp → VK → Prop) : Prop :=
  ∀ (pins : List (Addr × Obj)) (s : Shared) (σ : St) (H : Hp) (x : V) (v vl vu : Value) (lo hi : Option Int) (sl : Addr) (Q : VK), Inv X pins σ H s → RelV x v → s.heap.IsSliceOf sl vl vu .none → IsPart vl lo → IsPart vu hi → r x lo hi H Q →
    ∃ T id, typeLookup (.type T) "__getitem__" = pure (some (.builtin id)) ∧ s.TypeIs v T ∧ wpAny (model X.prog X.w) X.A (getItem v (.ref sl)) (EP X pins σ Q) X.xe s
def tSl (r : V → Option Int → Option Int → Hp → VK → Prop) (te : TE) (tl th : TO) : TE := fun σ H Q => te σ H fun x H1 => tl σ H1 fun l H2 => th σ H2 fun u H3 => r x l u H3 Q
theorem pe_slice {r : V → Option Int → Option Int → Hp → VK → Prop} (hr : SlR X r) (he : PE X e te) (hl : PO X lo tl) (hu : PO X hi th) : PE X (.Subscript e (.Slice lo hi none p2) pos) (tSl r te tl th) := by
  intro pins s σ H Q I h
  refine Subscript_ (thn (he pins s σ H _ I h) fun v s1 hz_ => ?_)
  obtain ⟨x, H1, I1, r1, q1⟩ := hz_
  refine wpAny_Slice (thn (hl pins s1 σ H1 _ I1 q1) fun vl s2 ⟨l, H2, I2, pl, q2⟩ => thn (hu pins s2 σ H2 _ I2 q2) fun vu s3 hz_ => ?_)
  obtain ⟨u, H3, I3, pu, q3⟩ := hz_
  rw [evalPart_none]
  refine wpAny_pure ?_
  have I4 : Inv X pins σ H3 { s3 with heap := s3.heap.push { cls := .type "slice", data := .fields #[vl, vu, .none] } } := I3.kept (t' := s3.toks) fun b ob q => Heap.get?_push_of_some _ q
  obtain ⟨T, id, hT, ht, hg⟩ := hr pins { s3 with heap := s3.heap.push { cls := .type "slice", data := .fields #[vl, vu, .none] } } σ H3 x v vl vu l u s3.heap.objs.size Q I4 r1 (Heap.IsSliceOf.new ..) pl pu q3
  show wpAny (model X.prog X.w) X.A (subscriptTail e (.Slice lo hi none p2) v (.ref s3.heap.objs.size)) (EP X pins σ Q) X.xe { s3 with heap := s3.heap.push { cls := .type "slice", data := .fields #[vl, vu, .none] } }
  exact tail_any (ops := [.ref s3.heap.objs.size, v]) ht hT hg (by with_unfolding_all rfl)
def cutV (xs : List V) (lo hi : Option Int) : List V := (xs.drop (HT.sIx xs.length 0 lo)).take (HT.sIx xs.length xs.length hi - HT.sIx xs.length 0 lo)
theorem cutV_length (xs : List V) (lo hi : Option Int) : (cutV xs lo hi).length ≤ xs.length := by
  unfold cutV
  rw [List.length_take, List.length_drop]
  omega
end
end L2
namespace L2
open PySem PySem.Spec PyProof.Rows
def ixN (n : Nat) (i : Int) : Option Nat := if 0 ≤ i then (if i < n then some i.toNat else none) else if -(n : Int) ≤ i then some (i + n).toNat else none
def atI {α : Type} (xs : List α) (i : Int) : Option α := (ixN xs.length i).bind fun j => xs[j]?
theorem ixN_seq {n : Nat} {i : Int} {j : Nat} (h : ixN n i = some j) : seqIndex? i n = some j ∧ j < n ∧ -(n : Int) ≤ i ∧ i < n := by
  unfold ixN at h
  by_cases h0 : 0 ≤ i
  · rw [if_pos h0] at h
    by_cases h1 : i < n
    · rw [if_pos h1] at h
      have e : i.toNat = j := Option.some.inj h
      exact ⟨by rw [seqIndex_of h0 h1, e], by omega, by omega, h1⟩
    · rw [if_neg h1] at h; cases h
  · rw [if_neg h0] at h
    by_cases h1 : -(n : Int) ≤ i
    · rw [if_pos h1] at h
      have e : (i + n).toNat = j := Option.some.inj h
      exact ⟨by rw [seqIndex_neg (by omega) h1, e], by omega, h1, by omega⟩
    · rw [if_neg h1] at h; cases h
theorem atI_get {α : Type} {xs : List α} {i : Int} {v : α} (h : atI xs i = some v) : ∃ j, seqIndex? i xs.length = some j ∧ xs[j]? = some v ∧ j < xs.length ∧ -(xs.length : Int) ≤ i ∧ i < xs.length := by
  unfold atI at h
  cases e : ixN xs.length i with
  | none => rw [e] at h; cases h
  | some j =>
    rw [e] at h
    obtain ⟨h1, h2, h3, h4⟩ := ixN_seq e
    exact ⟨j, h1, h, h2, h3, h4⟩
theorem atI_nat {α : Type} {xs : List α} {j : Nat} {v : α} (h : xs[j]? = some v) : atI xs (j : Int) = some v := by
  have hj : j < xs.length := (List.getElem?_eq_some_iff.mp h).1
  have e : ixN xs.length (j : Int) = some j := by
    unfold ixN
    rw [if_pos (by omega), if_pos (by omega)]; simp
  unfold atI; rw [e]; exact h
def PlainIx (b : Expr) : Prop := ∀ o i, subscripted b false o i = operate [o, i] (getItem o i)
def IxR (X : Cx) (r : R2) : Prop :=
  ∀ (value slice : Expr) (pins : List (Addr × Obj)) (s : Shared) (σ : St) (H : Hp) (x y : V) (v u : Value) (Q : VK), Inv X pins σ H s → RelV x v → RelV y u → r x y H Q →
    subscripted slice false v u = operate [v, u] (getItem v u) → wpAny (model X.prog X.w) X.A (subscriptTail value slice v u) (EP X pins σ Q) X.xe s
def MtR (X : Cx) (id : String) (r : V → List V → Hp → VK → Prop) : Prop :=
  ∀ (pins : List (Addr × Obj)) (s : Shared) (σ : St) (H : Hp) (x : V) (xs : List V) (v : Value) (us : List Value) (Q : VK), Inv X pins σ H s → RelV x v → Vals xs us → r x xs H Q →
    wpAny (model X.prog X.w) X.A (call (.builtin id) (v :: us)) (EP X pins σ Q) X.xe s
section
variable {X : Cx} {a b : Expr} {ta tb : TE} {pos : Pos}
theorem pe_ix {r : R2} (hr : IxR X r) (ha : PE X a ta) (hb : PE X b tb) (hs : PlainIx b) : PE X (.Subscript a b pos) (tOp r ta tb) := by
  intro pins s σ H Q I h
  exact Subscript_ (binT ha hb I h fun v u s2 x y H2 I2 rx ry q => hr a b pins s2 σ H2 x y v u Q I2 rx ry q (hs _ _))
def rIxL (K : PySem.W.Frag) : R2 := fun x y H Q => ∃ p xs i v, x = .ref p ∧ y = .int i ∧ SqL K H p xs ∧ atI xs i = some v ∧ Q v H
def rIxT (K : PySem.W.Frag) : R2 := fun x y H Q => ∃ p xs i v, x = .ref p ∧ y = .int i ∧ SqT K H p xs ∧ atI xs i = some v ∧ Q v H
def rIxS : R2 := fun x y H Q => ∃ z i c, x = .str z ∧ y = .int i ∧ z.length ≤ sizeLine ∧ atI z.cps.toList i = some c ∧ Q (.str ⟨#[c]⟩) H
theorem ix_list : IxR X (rIxL X.K) := by
  intro value slice pins s σ H x y v u Q I rx ry h hs
  obtain ⟨p, xs, i, z, rfl, rfl, hq, he, q⟩ := h
  cases rx
  obtain ⟨t, rfl⟩ := ry
  obtain ⟨its, r, pl, hz⟩ := I.list hq
  obtain ⟨j, h1, h2, h3, h4, h5⟩ := atI_get he
  obtain ⟨w, ew, rw'⟩ := r.get h2
  have hl := r.length
  have hn := line63
  have fin : EP X pins σ Q w s := ⟨z, H, I, rw', q⟩
  by_cases h0 : 0 ≤ i
  · have hj : i.toNat = j := by
      rw [seqIndex_of h0 h5] at h1
      exact Option.some.inj h1
    exact item_listR pl.isList h0 (by omega) (by rw [hj]; simpa using ew) fin hs
  · have hj : (i + (its.toArray.size : Int)).toNat = j := by
      rw [seqIndex_neg (by omega) h4] at h1
      rw [List.size_toArray, ← hl]
      exact Option.some.inj h1
    exact subscriptTail_builtinR (x := w) pl.isList.typeIs slot_list_getitem.lookup
      (wpAny_getItem_list_neg (Q := fun r s' => r = w ∧ EP X pins σ Q r s') pl.isList (by omega) (by rw [List.size_toArray] <;> omega) (by omega) (by rw [hj]; simpa using ew) ⟨rfl, fin⟩) hs
theorem ix_tup : IxR X (rIxT X.K) := by
  intro value slice pins s σ H x y v u Q I rx ry h hs
  obtain ⟨p, xs, i, z, rfl, rfl, hq, he, q⟩ := h
  cases rx
  obtain ⟨t, rfl⟩ := ry
  obtain ⟨its, r, pl, hz⟩ := I.tuple hq
  obtain ⟨j, h1, h2, h3, h4, h5⟩ := atI_get he
  obtain ⟨w, ew, rw'⟩ := r.get h2
  have hl := r.length
  have hn := line63
  have fin : EP X pins σ Q w s := ⟨z, H, I, rw', q⟩
  exact subscriptTail_builtinR (x := w) pl.typeIs slot_tuple_getitem.lookup
    (getItem_tuple (j := j) (Q := fun r s' => r = w ∧ EP X pins σ Q r s') pl (by omega) (by omega) (by rw [List.size_toArray, ← hl]; exact h1) (by simpa using ew) ⟨rfl, fin⟩) hs
theorem ix_str : IxR X rIxS := by
  intro value slice pins s σ H x y v u Q I rx ry h hs
  obtain ⟨z, i, c, rfl, rfl, hz, he, q⟩ := h
  obtain ⟨t, rfl⟩ := rx
  obtain ⟨t', rfl⟩ := ry
  obtain ⟨j, h1, h2, h3, h4, h5⟩ := atI_get he
  have hl : z.cps.toList.length = z.length := by simp [Str.length]
  rw [hl] at h1 h4 h5
  have hn := line63
  exact tail_any (typeIs_str s z t) slot_str_getitem.lookup (getItem_str (c := c) (by
    have e1 : decide (i < -(2 ^ 63 : Int)) = false := decide_eq_false (by omega)
    have e2 : decide (i ≥ 2 ^ 63) = false := decide_eq_false (by omega)
    rw [e1, e2, Bool.or_false]) (by rw [h1]; simpa using h2) ⟨.str ⟨#[c]⟩, H, I.tok _, ⟨_, rfl⟩, q⟩) hs
theorem mapSeq_set (its : List Value) (n j : Nat) (u : Value) : Obj.mapSeq (·.setIfInBounds j u) { cls := .type "list", data := .seq its.toArray n } = { cls := .type "list", data := .seq (its.set j u).toArray n } := by
  simp [Obj.mapSeq]
theorem Inv.lst {pins : List (Addr × Obj)} {σ : St} {H : Hp} {s : Shared} {p : Addr} {xs : List V} (I : Inv X pins σ H s) (h : H p = some (.lst xs)) :
    ∃ (its : List Value) (n : Nat), Vals xs its ∧ s.heap.get? p = some { cls := .type "list", data := .seq its.toArray n } ∧ xs.length ≤ sizeLine := by
  obtain ⟨z, its, n, r, e⟩ := I.hok p _ h
  exact ⟨its, n, r, e, z⟩
theorem Inv.lstUpd {pins : List (Addr × Obj)} {σ : St} {H : Hp} {s : Shared} {p : Addr} {xs ys : List V} {its its' : List Value} {n n' : Nat} {f : Obj → Obj} (I : Inv X pins σ H s) (h : H p = some (.lst xs))
    (ho : s.heap.get? p = some { cls := .type "list", data := .seq its.toArray n }) (hf : f { cls := .type "list", data := .seq its.toArray n } = { cls := .type "list", data := .seq its'.toArray n' }) (r : Vals ys its') (hz : ys.length ≤ sizeLine) (t : Nat) :
    Inv X pins σ (upd H p (.lst ys)) { s with heap := s.heap.update p f, toks := t } := by
  have e : (s.heap.update p f).get? p = some { cls := .type "list", data := .seq its'.toArray n' } := by
    rw [Heap.get?_update_self f ho (by rw [hf] <;> rfl), hf]
  refine I.write (x := p) (e := p) (by rw [h]; trivial) (.inl rfl) (fun b u hb q => (Heap.get?_update_other _ _ (Ne.symm hb)).trans q) ⟨_, e⟩ ?_
  exact ⟨hz, its', n', r, e⟩
def rSetL : V → V → V → Hp → (Hp → Prop) → Prop := fun o i v H Q => ∃ p xs k j, o = .ref p ∧ i = .int k ∧ H p = some (.lst xs) ∧ ixN xs.length k = some j ∧ Q (upd H p (.lst (xs.set j v)))
theorem set_list : PSet X rSetL := by
  intro pins s σ H o i v ov iv u Q I ro ri rv h
  obtain ⟨p, xs, k, j, rfl, rfl, hp, hj, q⟩ := h
  cases ro
  obtain ⟨t, rfl⟩ := ri
  obtain ⟨its, n, r, ho, hz⟩ := I.lst hp
  obtain ⟨h1, h2, h3, h4⟩ := ixN_seq hj
  have hl := r.length
  have hn := line63
  have I' : Inv X pins σ (upd H p (.lst (xs.set j v))) { s with heap := s.heap.update p (Obj.mapSeq (·.setIfInBounds j u)) } :=
    I.lstUpd hp ho (mapSeq_set its n j u) (r.set rv j) (by rw [List.length_set]; exact hz) s.toks
  by_cases h0 : 0 ≤ k
  · have hk : k.toNat = j := by
      rw [seqIndex_of h0 h4] at h1
      exact Option.some.inj h1
    exact PySem.W.ki_setAt ho h0 (by omega) (by rw [List.size_toArray, ← hl]; exact h4) (by rw [hk]; exact ⟨_, I', q⟩)
  · have hk : (k + (its.toArray.size : Int)).toNat = j := by
      rw [seqIndex_neg (by omega) h3] at h1
      rw [List.size_toArray, ← hl]
      exact Option.some.inj h1
    exact PySem.W.ki_setBack ho (by omega) (by rw [List.size_toArray, ← hl]; exact h3) (by omega) (by rw [hk]; exact ⟨_, I', q⟩)
theorem slice_bounds (lo hi : Option Int) (n : Nat) : (sliceBounds lo hi none n).1 = ((HT.sIx n 0 lo : Nat) : Int) ∧ (sliceBounds lo hi none n).2.1 = ((HT.sIx n n hi : Nat) : Int) ∧ (sliceBounds lo hi none n).2.2 = 1 := by
  refine ⟨?_, ?_, rfl⟩
  · cases lo with
    | none => simp [sliceBounds, HT.sIx]
    | some i =>
      simp only [sliceBounds, HT.sIx, Option.getD_none, show (1 : Int) > 0 by decide, if_true]
      by_cases h : i < 0
      · simp only [h, if_true] <;> omega
      · simp only [h, if_false] <;> omega
  · cases hi with
    | none => simp [sliceBounds, HT.sIx]
    | some i =>
      simp only [sliceBounds, HT.sIx, Option.getD_none, show (1 : Int) > 0 by decide, if_true]
      by_cases h : i < 0
      · simp only [h, if_true] <;> omega
      · simp only [h, if_false] <;> omega
theorem slicePick_cut (its : List Value) (lo hi : Option Int) : slicePick its.toArray lo hi none = ((its.drop (HT.sIx its.length 0 lo)).take (HT.sIx its.length its.length hi - HT.sIx its.length 0 lo)).toArray := by
  obtain ⟨h1, h2, h3⟩ := slice_bounds lo hi its.toArray.size
  unfold slicePick
  rw [h1, h2, h3]
  simp only [sliceRange_one, pick_run, List.size_toArray] <;> rfl
def rSlL (K : PySem.W.Frag) : V → Option Int → Option Int → Hp → VK → Prop := fun x lo hi H Q => ∃ a xs, x = .ref a ∧ SqL K H a xs ∧ ∀ p, H p = none → Q (.ref p) (upd H p (.lst (cutV xs lo hi)))
theorem sl_list : SlR X (rSlL X.K) := by
  intro pins s σ H x v vl vu lo hi sl Q I rx hs pl pu h
  obtain ⟨a, xs, rfl, hx, q⟩ := h
  cases rx
  obtain ⟨its, r, ht, hz⟩ := I.list hx
  have hlen := r.length
  refine ⟨"list", _, slot_list_getitem.lookup, ht.isList.typeIs, ?_⟩
  refine wpAny_getItem_list_slice ht.isList hs pl pu .none (by simp) ?_ (by rw [List.size_toArray] <;> omega)
  rw [slicePick_cut, ← hlen]
  refine ⟨.ref s.heap.objs.size, _, I.laid (t' := s.toks) (o := .lst (cutV xs lo hi)) (fun b ob q => Heap.get?_push_of_some _ q) (Nat.le_refl _) ?_, rfl, q _ (I.hok.fresh (Nat.le_refl _))⟩
  exact ⟨Nat.le_trans (cutV_length xs lo hi) hz, _, 0, (r.drop (HT.sIx xs.length 0 lo)).take (HT.sIx xs.length xs.length hi - HT.sIx xs.length 0 lo), Heap.get?_push_size _ rfl⟩
theorem call_len_seq : CallR X (.builtin "len") (fun xs H Q => ∃ p ys, xs = [.ref p] ∧ (SqL X.K H p ys ∨ SqT X.K H p ys) ∧ Q (.int ys.length) H) := by
  intro pins s σ H xs us Q I r h
  obtain ⟨p, ys, rfl, hq, q⟩ := h
  obtain ⟨u, rfl, rx⟩ := vals1 r
  cases rx
  have hn := line63
  rcases hq with hq | hq
  · obtain ⟨its, r', pl, hz⟩ := I.list hq
    have hlen := r'.length
    exact Calls.call_len_list pl.isList (by simp only [List.size_toArray] <;> omega) ⟨.int ys.length, H, I.tok _, ⟨s.toks + 1, by rw [List.size_toArray, hlen]⟩, q⟩
  · obtain ⟨its, r', pl, hz⟩ := I.tuple hq
    have hlen := r'.length
    exact len_tuple pl (by simp only [List.size_toArray] <;> omega) ⟨.int ys.length, H, I.tok _, ⟨s.toks + 1, by rw [List.size_toArray, hlen]⟩, q⟩
theorem call_list_of : CallR X (.type "list") (fun xs H Q => ∃ p ys, xs = [.ref p] ∧ (SqL X.K H p ys ∨ SqT X.K H p ys) ∧ ∀ l, H l = none → Q (.ref l) (upd H l (.lst ys))) := by
  intro pins s σ H xs us Q I r h
  obtain ⟨p, ys, rfl, hq, q⟩ := h
  obtain ⟨u, rfl, rx⟩ := vals1 r
  cases rx
  have fin : ∀ (its : List Value), Vals ys its → ys.length ≤ sizeLine → ∀ (h' : Heap) (c' : Nat), (∀ b o', s.heap.get? b = some o' → h'.get? b = some o') →
      h'.get? s.heap.objs.size = some { cls := .type "list", dict := none, data := .seq its.toArray c', slots := #[] } → EP X pins σ Q (.ref s.heap.objs.size) { s with heap := h' } := fun its r' hz h' c' kp e =>
    ⟨.ref s.heap.objs.size, _, I.laid (t' := s.toks) kp (Nat.le_refl _) (show ObjOk X.prog X.w _ h' _ (.lst ys) from ⟨hz, its, c', r', e⟩), rfl, q _ (I.hok.fresh (Nat.le_refl _))⟩
  rcases hq with hq | hq
  · obtain ⟨its, r', pl, hz⟩ := I.list hq
    have hlen := r'.length
    obtain ⟨o, ho, hc, n, hd⟩ := pl.isList
    exact call_list_seq p (.inl rfl) ho hc hd (fun h' c' kp e => fin its r' hz h' c' kp e) (by simp only [List.size_toArray] <;> omega)
  · obtain ⟨its, r', pl, hz⟩ := I.tuple hq
    have hlen := r'.length
    obtain ⟨o, ho, hc, n, hd⟩ := pl
    exact call_list_seq p (.inr rfl) ho hc hd (fun h' c' kp e => fin its r' hz h' c' kp e) (by simp only [List.size_toArray] <;> omega)
def tyV (K : PySem.W.Frag) (T : String) (x : V) (H : Hp) : Prop := match x with
  | .str _ => T = "str"
  | .int _ => T = "int"
  | .ref p => (T = "list" ∧ ∃ xs, SqL K H p xs) ∨ (T = "tuple" ∧ ∃ o, K.lookup p = some o ∧ o.cls = .type "tuple" ∧ o.dict = none) ∨
      (T = "dict" ∧ ((∃ kvs, H p = some (.dK kvs)) ∨ ∃ kvs, H p = some (.dT kvs))) ∨ (T = "set" ∧ ∃ S n, H p = some (.set S n))
  | _ => False
theorem tyV_is {pins : List (Addr × Obj)} {σ : St} {H : Hp} {s : Shared} {T : String} {x : V} {v : Value} (I : Inv X pins σ H s) (r : RelV x v) (ty : tyV X.K T x H) :
    s.TypeIs v T ∧ ∀ a, v = .ref a → ∃ ob, s.heap.get? a = some ob ∧ ob.dict = none := by
  cases x with
  | str z =>
    obtain ⟨t, rfl⟩ := r
    cases (show T = "str" from ty)
    exact ⟨typeIs_str s z t, fun _ e => nomatch e⟩
  | int i =>
    obtain ⟨t, rfl⟩ := r
    cases (show T = "int" from ty)
    exact ⟨typeIs_int s i t, fun _ e => nomatch e⟩
  | ref p =>
    cases r
    rcases ty with ⟨rfl, xs, hq⟩ | ⟨rfl, o, hk, hc, hd⟩ | ⟨rfl, hk⟩ | ⟨rfl, S, n, hk⟩
    · obtain ⟨its, _, pl, _⟩ := I.list hq
      refine ⟨pl.isList.typeIs, fun a e => ?_⟩
      cases e
      obtain ⟨o, n, e, c, hd, _⟩ := pl
      exact ⟨o, e, hd⟩
    · refine ⟨⟨o, I.kIn p o hk, hc⟩, fun a e => ?_⟩
      cases e
      exact ⟨o, I.kIn _ o hk, hd⟩
    · have z : ∃ o, s.heap.get? p = some o ∧ o.ExactDict := by
        rcases hk with ⟨kvs, hk⟩ | ⟨kvs, hk⟩
        · obtain ⟨_, _, _, _, o, _, _, e, ex, _⟩ := I.hok p _ hk
          exact ⟨o, e, ex⟩
        · obtain ⟨_, _, _, _, o, _, _, e, ex, _⟩ := I.hok p _ hk
          exact ⟨o, e, ex⟩
      obtain ⟨o, e, ex⟩ := z
      refine ⟨⟨o, e, ex.1⟩, fun a e2 => ?_⟩
      cases e2
      exact ⟨o, e, ex.2.1⟩
    · obtain ⟨o, _, _, _, e, ex, _⟩ := I.hok p _ hk
      refine ⟨⟨o, e, ex.1⟩, fun a e2 => ?_⟩
      cases e2
      exact ⟨o, e, ex.2.1⟩
  | _ => exact False.elim ty
def tBM (K : PySem.W.Frag) (T : String) (r : V → List V → Hp → VK → Prop) (to : TE) (t : TA) : TE := fun σ H Q => to σ H fun x H1 => tyV K T x H1 ∧ t σ H1 fun xs H2 => r x xs H2 Q
variable {o e : Expr} {es : List Expr} {to : TE} {t : TA} {name : Str} {apos cpos : Pos} {T id : String} {r : V → List V → Hp → VK → Prop}
theorem pe_bm (pa : PlainAttrs T) (slot : Slot T name id) (hty : typeOf (.builtin id) = pure (.type "method_descriptor")) (hm : MtR X id r) (ho : PE X o to) (ha : PA X (e :: es) t)
    (hbase : attributeBase o name X.env (eval o X.env) = eval o X.env := by rfl)
    (hfew : ((backTo cpos (starEach (e :: es) X.env)).all (fun x => !x.1) && (backToKw cpos (keywordEach [] X.env)).all (fun x => x.1.isSome)
      && decide ((e :: es).length + ([] : List Keyword).length + (if ([] : List Keyword).isEmpty then 0 else 1) < 30)) = true := by rfl)
    (hline : (apos.endLine == cpos.line) = true := by rfl) (hs : starEach (e :: es) X.env = (false, eval e X.env) :: starEach es X.env := by rfl) (hplain : (backTo cpos (starEach es X.env)).any (·.1) = false := by rfl) :
    PE X (.Call (.Attribute o name apos) (e :: es) [] cpos) (tBM X.K T r to t) := by
  intro pins s σ H Q I h
  refine wpAny_Call_method_late hbase hfew hline rfl (thn (ho pins s σ H _ I h) fun v s1 hz_ => ?_)
  obtain ⟨x, H1, I1, r1, ty, q1⟩ := hz_
  obtain ⟨h1, h2⟩ := tyV_is I1 r1 ty
  refine ⟨T, id, pa, slot, hty, h1, h2, ?_⟩
  have hA := ha cpos pins s1 σ H1 _ I1 q1
  rw [hs] at hA ⊢
  refine Calls.callWith_builtin (by show (false || (backTo cpos (starEach es X.env)).any (·.1)) = false; rw [hplain] <;> rfl) (Calls.evalArgs_plain ?_)
  exact thn hA fun us s2 ⟨vs, H2, I2, r2, q2⟩ => hm pins s2 σ H2 x vs v us Q I2 r1 r2 q2
end
end L2
namespace L2
open PySem PySem.Spec PyProof.Rows
def MtM (X : Cx) (id : String) (r : V → List V → Hp → VK → Prop) : Prop :=
  ∀ (pins : List (Addr × Obj)) (s : Shared) (σ : St) (H : Hp) (x : V) (xs : List V) (v : Value) (us : List Value) (Q : VK), Inv X pins σ H s → RelV x v → Vals xs us → r x xs H Q →
    wpAny (model X.prog X.w) X.A (call (.builtin id) (v :: us)) (EP X pins σ Q) X.xe s
theorem Vals.one : ∀ {x : V} {us : List Value}, Vals [x] us → ∃ u, us = [u] ∧ RelV x u := fun h => vals1 h
section
variable {X : Cx} {pins : List (Addr × Obj)} {σ : St} {H : Hp} {s : Shared} {l b : Addr} {xs ys zs : List V}
theorem Inv.lset {its its' : List Value} {n : Nat} {f : Array Value → Array Value} {t' : Nat} (I : Inv X pins σ H s) (hH : H l = some (.lst xs))
    (e : s.heap.get? l = some { cls := .type "list", data := .seq its.toArray n }) (hf : f its.toArray = its'.toArray) (hv : Vals ys its') (hz : ys.length ≤ sizeLine) :
    Inv X pins σ (upd H l (.lst ys)) { s with heap := s.heap.update l (Obj.mapSeq f), toks := t' } := by
  have q := PySem.IsL.update e f
  rw [hf] at q
  refine I.write (x := l) (e := l) (by rw [hH]; exact trivial) (.inl rfl) (fun b' u hb hu => (Heap.get?_update_other s.heap (Obj.mapSeq f) (Ne.symm hb)).trans hu) ⟨_, q⟩ ?_
  exact ⟨hz, its', _, hv, q⟩
theorem Inv.lnew {its : List Value} {t' : Nat} (I : Inv X pins σ H s) (hv : Vals ys its) (hz : ys.length ≤ sizeLine) :
    Inv X pins σ (upd H s.heap.objs.size (.lst ys)) { s with heap := s.heap.push { cls := .type "list", data := .seq its.toArray }, toks := t' } :=
  I.laid (fun _ _ q => Heap.get?_push_of_some _ q) (Nat.le_refl _) ⟨hz, its, 0, hv, Heap.get?_push_size _ rfl⟩
theorem Inv.fresh (I : Inv X pins σ H s) : H s.heap.objs.size = none := I.hok.fresh (Nat.le_refl _)
theorem Inv.lstM (I : Inv X pins σ H s) (hH : H l = some (.lst xs)) : xs.length ≤ sizeLine ∧ ∃ (its : List Value) (n : Nat), Vals xs its ∧ xs.length = its.length ∧ s.heap.get? l = some { cls := .type "list", data := .seq its.toArray n } := by
  obtain ⟨z, its, n, r, e⟩ := I.hok l _ hH
  exact ⟨z, its, n, r, r.length, e⟩
end
section
variable {X : Cx}
def rAppend : V → List V → Hp → VK → Prop := fun x vs H Q => ∃ l xs y, x = .ref l ∧ vs = [y] ∧ H l = some (.lst xs) ∧ xs.length < sizeLine ∧ Q .non (upd H l (.lst (xs ++ [y])))
theorem mt_append : MtM X "list.append" rAppend := by
  intro pins s σ H x vs v us Q I rx rv h
  obtain ⟨l, xs, y, rfl, rfl, hH, hz, q⟩ := h
  cases rx
  obtain ⟨u, rfl, ru⟩ := rv.one
  obtain ⟨z, its, n, r, hl, e⟩ := I.lstM hH
  refine call_meets F.slot_list_append ⟨_, e, rfl⟩ F.entry_list_append (F.args_list_append_2 _ _) (PySem.list_append l its.toArray n u (by rw [List.size_toArray]; omega)) ⟨e, ?_⟩
  refine ⟨.non, _, I.lset (its' := its ++ [u]) hH e (by simp) (r.append (.cons ru .nil)) ?_, rfl, q⟩
  rw [List.length_append, List.length_singleton]
  omega
def rCat : R2 := fun x y H Q => ∃ l b xs zs, x = .ref l ∧ y = .ref b ∧ H l = some (.lst xs) ∧ H b = some (.lst zs) ∧ xs.length + zs.length ≤ sizeLine ∧ ∀ p, H p = none → Q (.ref p) (upd H p (.lst (xs ++ zs)))
theorem op_cat : OpR X (binaryOp .Add) rCat := by
  intro pins s σ H x y v u Q I rx ry h
  obtain ⟨l, b, xs, zs, rfl, rfl, hH, hB, hz, q⟩ := h
  cases rx
  cases ry
  obtain ⟨z, its, n, r, hl, e⟩ := I.lstM hH
  obtain ⟨z2, its2, n2, r2, hl2, e2⟩ := I.lstM hB
  refine PySem.P.add_list e e2 ?_ (by rw [List.size_toArray, List.size_toArray]; omega)
  have ea : its.toArray ++ its2.toArray = (its ++ its2).toArray := by simp
  rw [ea]
  exact ⟨.ref _, _, I.lnew (t' := s.toks) (r.append r2) (by rw [List.length_append]; omega), rfl, q _ I.fresh⟩
end
section
variable {prog : Program} {w : World} {A : Around} {E : Value → Shared → Prop} {s : Shared}
end
section
variable {X : Cx}
end
end L2
namespace Att
open PySem PySem.W PySem.Calls PyProof.Rows
theorem ints_of_wellAll {P : Params} {h : Heap} : ∀ (ns : List Int) (vs : List Value), WellAll P h vs (ns.map WData.int) → IntsAre vs ns := by
  intro ns
  induction ns with
  | nil =>
    intro vs w
    rw [List.map_nil] at w
    cases w
    exact .nil
  | cons n ns ih =>
    intro vs w
    rw [List.map_cons] at w
    cases w with
    | cons a b =>
      cases a
      exact .cons _ _ (ih _ b)
theorem script_of {l : OpenLaw} {n : Nat} (hn : l.most = some n) {P : Params} {h : Heap} {args : List WData} {vals : List Value}
    (hpre : l.row.toRowW.claim.pre args = true) (hwl : WellAll P h vals args) :
    ∃ a vs ns, vals = [Value.ref a] ∧ args = [WData.list (ns.map WData.int)] ∧ h.get? a = some { cls := .type "list", data := .seq vs.toArray } ∧ IntsAre vs ns ∧ ns.length ≤ n := by
  have hsh : WShape.hasAll [] args [.list .int] = true := (pre_splitW hpre).1
  have hc : l.pre.holds [] { args := args } = true := (pre_splitW hpre).2
  obtain ⟨d, r, rfl, h1, h2⟩ := hasAllW_cons hsh
  obtain rfl := hasAllW_nil h2
  obtain ⟨xs, rfl, h3⟩ := hasW_list h1
  obtain ⟨ns, rfl⟩ := items_int h3
  have hlen : ns.length ≤ n := by
    unfold OpenLaw.pre at hc
    have h4 : (WTm.not (.lt (.lit (.int (n : Int))) (.len (.arg 0)))).holds [] { args := [.list (ns.map .int)] } = true := by
      have h4 := (holds_andW hc).1
      rw [hn] at h4
      exact h4
    have h5 := condW_of h4 (w_not (w_lt w_lit (w_len_list (w_arg rfl))))
    rw [List.length_map] at h5
    refine Nat.le_of_not_lt fun q => ?_
    have q' : (n : Int) < ((ns.length : Nat) : Int) := by omega
    first
      | (rw [decide_eq_true q'] at h5; exact absurd h5 (by decide))
      | (simp at h5; omega)
  cases hwl with
  | cons w1 w2 =>
    cases w2
    cases w1 with
    | list ho hall => exact ⟨_, _, ns, rfl, rfl, ho, ints_of_wellAll ns _ hall, hlen⟩
theorem post_true (l : OpenLaw) (args : List WData) : l.row.toRowW.claim.post args (.bool true) args = true :=
  postW_of (r := l.row.toRowW) (X := (true == true))
    (show WShape.has [] (.bool true) .bool = true by first | rfl | decide | simp [WShape.has, WShape.arms, WShape.armsAll])
    (show (WTm.eq .res (.lit (.bool true))).value [] { args := args, res := some (.bool true), after := args } = some (.bool (true == true)) from w_eq_bool (w_res rfl) w_lit) rfl
theorem attach_call {l : OpenLaw} {n : Nat} {q : Program} {loose : List Str} {XP : (Str → Option Value) → Heap → Prop} {YP : World → Heap → Prop} {d : DefRec}
    (hn : l.most = some n) (hdf : d.params.defaults = [])
    (call : ∀ (w : World) (s₀ s₁ : Shared) (mg mb : Str → Option Value) (fa : Addr) (o : Obj) (pm cd doc : Value) (a : Addr) (vs : List Value) (ns : List Int),
      Ground q loose [] XP w s₀ mg mb s₁.heap → YP w s₁.heap →
      s₁.heap.get? fa = some o → o.data = .func (docDef d.name d.params d.body d.scope pm cd doc) → s₁.heap.CodeRec cd d.name → mg d.name = some (.ref fa) →
      s₁.heap.get? a = some { cls := .type "list", data := .seq vs.toArray } → IntsAre vs ns → ns.length ≤ n → s₁.gens = #[] →
      codeAny (model l.prog w) callerA (.call (.ref fa) ⟨[.ref a], []⟩) (fun r s' => r = .ok (.ret (.bool true)) ∧ OldK s₁.heap s'.heap ∧ s'.os = s₁.os ∧ AllBare s'.gens) s₁) :
    WalkO q loose XP YP l.row.toRowW d [] (fun f vs => PySem.call f vs) := by
  intro w s₀ s₁ mg mb G Y fa o pm cd doc dV kV ho hd hcd hD hmg hg args vals as hpre hlay hrd hwl hlo
  obtain rfl : dV = .none := Dflts.none hD hdf
  obtain rfl : kV = .none := Dflts.noKw hD
  obtain ⟨a, vs, ns, rfl, rfl, hobj, hints, hlen⟩ := script_of hn hpre hwl
  refine enter_call (codeAny_mono (call w s₀ s₁ mg mb fa o pm cd doc a vs ns G Y ho (fd_plain hd) hcd hmg hobj hints hlen hg) fun r s' hq => ?_)
  obtain ⟨rfl, h2, h3, h4⟩ := hq
  exact ⟨.inl ⟨.bool true, .bool true, [], rfl, fun _ => rfl, .bool true, post_true l _, fun _ => ⟨List.Pairwise.nil, fun _ hm => (nomatch hm)⟩⟩, h2, h3, h4⟩
section
variable {prog : Program} {w : World} {A : Around} {E : Value → Shared → Prop} {s : Shared} {K : Frag}
end
end Att
namespace L2
open PySem PySem.Spec PyProof.Rows
theorem vals_ints : ∀ {vs : List Value} {ns : List Int}, IntsAre vs ns → Vals (ns.map V.int) vs
  | _, _, .nil => .nil
  | _, _, .cons n t h => .cons ⟨t, rfl⟩ (vals_ints h)
def Only (H : Hp) : Prop := ∀ b, H b = none ∨ ∃ o xs, H b = some (.frz o (.lst xs))
theorem law_call {P : Program} {w : World} {K : PySem.W.Frag} {mg mb : Str → Option Value} {CX : CXT} {k : Nat} {fa a : Addr} {fd : FuncData} {x : Str} {sp : Sp} {s₁ : Shared} {vs : List Value} {ns : List Int}
    (KX : K.In s₁.heap) (hns : s₁.heap.Ns mainGlobals mg) (hb : s₁.heap.Ns builtinsNs mb) (hbb : ∀ x : Str, x ≠ "__name__" → mb x = bootBuiltins x) (hlim : s₁.heap.NoLimit) (hg : s₁.gens = #[])
    (ha : s₁.heap.get? a = some { cls := .type "list", data := .seq vs.toArray }) (hi : IntsAre vs ns) (hl : ns.length ≤ sizeLine) (hr : Room k callerA)
    (F : ∀ base : Heap, K.In base → base.Ns mainGlobals mg → FnOk P w K mg base CX k fa fd [x] sp) (hbind : ∀ (s : Shared) (u : Value), BindsTo s fd ⟨[u], []⟩ [(x, u)])
    (hsp : ∀ H : Hp, Only H → SqL K H a (ns.map V.int) → sp [.ref a] H (fun v _ => v = .bl true) fun _ _ _ => False)
    (hCX : ∀ H e s', CX [] H s₁ (fun _ _ _ => False) e s' → False) :
    codeAny (model P w) callerA (.call (.ref fa) ⟨[.ref a], []⟩) (fun r s' => r = .ok (.ret (.bool true)) ∧ OldK s₁.heap s'.heap ∧ s'.os = s₁.os ∧ AllBare s'.gens) s₁ := by
  have rv := vals_ints hi
  have lenV := hi.length
  have core : ∀ H : Hp, Only H → SqL K H a (ns.map V.int) → HOk P w H s₁.heap → (∀ b, H b ≠ none → b = a) → (H a ≠ none → K.lookup a = none) →
      codeAny (model P w) callerA (.call (.ref fa) ⟨[.ref a], []⟩) (fun r s' => r = .ok (.ret (.bool true)) ∧ OldK s₁.heap s'.heap ∧ s'.os = s₁.os ∧ AllBare s'.gens) s₁ := by
    intro H hO hS hok hA hK
    have base_of : ∀ {b : Addr} {o : Obj}, s₁.heap.get? b = some o → H b = none → (hidT s₁.heap H).get? b = some o := fun e n => hidT_get e n
    have noA : ∀ {b : Addr} {o : Obj} {es : Array DictEntry} {ep : Nat}, s₁.heap.get? b = some o → o.data = .dict es ep → H b = none := fun {b o es ep} e d => by
      cases q : H b with
      | none => rfl
      | some u =>
        have e' : b = a := hA b (by rw [q]; simp)
        subst e'
        rw [ha] at e; cases e
        have d' : Data.seq vs.toArray _ = Data.dict es ep := d
        cases d'
    have nsK : ∀ {b : Addr} {m : Str → Option Value}, s₁.heap.Ns b m → (hidT s₁.heap H).Ns b m := fun {b m} ⟨o, es, ep, e, d, r⟩ => ⟨o, es, ep, base_of e (noA e d), d, r⟩
    have hKb : K.In (hidT s₁.heap H) := fun b o e => base_of (KX b o e) (by
      cases q : H b with
      | none => rfl
      | some u =>
        have e' : b = a := hA b (by rw [q]; simp)
        subst e'
        rw [hK (by rw [q]; simp)] at e; cases e)
    have hM : Mod K mg (hidT s₁.heap H) := ⟨hKb, nsK hns, ⟨mb, nsK hb, hbb⟩, let ⟨mc, h1, h2⟩ := hlim; ⟨mc, nsK h1, h2⟩⟩
    have e0 : Env0 P w K mg (hidT s₁.heap H) callerA [] s₁ H := ⟨rfl, hM, fun b o e => of_hidT e, Nat.le_of_eq (hidT_size _ _), trivial, fun b hb => absurd (show b ∈ ([] : List Addr) from hb) (by simp), hok, .of_eq hg⟩
    refine codeAny_mono ((F _ hKb (nsK hns)).run callerA [] s₁ H ⟨[.ref a], []⟩ [.ref a] [.ref a] _ _ hr e0 (hbind s₁ (.ref a)) (.cons rfl .nil) (hsp H hO hS)) fun r s' h => ?_
    cases r with
    | error e => exact (hCX H e s' h).elim
    | ok fl =>
      cases fl with
      | next => exact False.elim h
      | brk => exact False.elim h
      | cont => exact False.elim h
      | ret u =>
        obtain ⟨v, H', os, bare, un, hok', r', q⟩ := h
        have q' : v = .bl true := q
        subst q'
        obtain rfl : u = Value.bool true := r'
        refine ⟨rfl, OldK.of_keep fun b o e => ?_, os, bare⟩
        cases q : H b with
        | none => exact un.keep b o e q (by intro z; exact absurd (show b ∈ ([] : List Addr) from z) (by simp)) (by simp)
        | some u =>
          rcases hO b with z | ⟨ob, xs, z⟩
          · rw [q] at z; cases z
          · have z2 := un.frzs b ob _ z
            obtain ⟨e1, _⟩ := hok b _ z
            obtain ⟨e2, _⟩ := hok' b _ z2
            rw [e] at e1; cases e1
            exact e2
  cases hk : K.lookup a with
  | some o =>
    have e := KX a o hk
    rw [ha] at e
    cases e
    refine core (fun _ => none) (fun _ => .inl rfl) (.inr ⟨_, vs.toArray, _, hk, rfl, rfl, rfl, by rw [List.size_toArray, lenV]; exact hl, by simpa using rv⟩) (fun b u z => by have z' : (none : Option HO) = some u := z; cases z') (fun b z => absurd rfl z) fun z => absurd rfl z
  | none =>
    refine core (fun b => if b = a then some (.frz { cls := .type "list", data := .seq vs.toArray } (.lst (ns.map V.int))) else none) (fun b => ?_) (.inl (.inr ⟨{ cls := .type "list", data := .seq vs.toArray }, if_pos rfl⟩)) (fun b u z => ?_) (fun b z => ?_) fun _ => hk
    · by_cases hb : b = a
      · exact .inr ⟨_, _, if_pos hb⟩
      · exact .inl (if_neg hb)
    · by_cases hb : b = a
      · have z' := (if_pos hb).symm.trans z
        cases z'
        subst hb
        exact ⟨ha, by rw [List.length_map]; exact hl, vs, _, rv, ha⟩
      · have z' := (if_neg hb).symm.trans z
        cases z'
    · by_cases hb : b = a
      · exact hb
      · exact absurd (if_neg hb) z
end L2
namespace L2
open PySem PySem.Spec PyProof.Rows
theorem walk_of {l : PySem.W.OpenLaw} {n k : Nat} {q : Program} {loose : List Str} {XP : (Str → Option Value) → Heap → Prop} {YP : World → Heap → Prop} {d : DefRec} {K : Params → PySem.W.Frag} {CX : World → CXT} {sp : World → Sp} {x : Str}
    (hn : l.most = some n) (hn2 : n ≤ sizeLine) (hdf : d.params.defaults = []) (hr : Room k callerA)
    (hY : ∀ (w : World) (h : Heap), YP w h → (K w.params).In h)
    (F : ∀ (w : World) (mg : Str → Option Value) (fa : Addr) (h : Heap), (K w.params).In h → h.Ns mainGlobals mg → mg d.name = some (.ref fa) →
      ∃ fd : FuncData, (∀ (s : Shared) (u : Value), BindsTo s fd ⟨[u], []⟩ [(x, u)]) ∧
        ∀ base : Heap, (K w.params).In base → base.Ns mainGlobals mg → FnOk l.prog w (K w.params) mg base (CX w) k fa fd [x] (sp w))
    (hsp : ∀ (w : World) (H : Hp) (a : Addr) (ns : List Int), ns.length ≤ n → Only H → SqL (K w.params) H a (ns.map V.int) → sp w [.ref a] H (fun v _ => v = .bl true) fun _ _ _ => False)
    (hCX : ∀ (w : World) (H : Hp) (s : Shared) (e : Value) (s' : Shared), CX w [] H s (fun _ _ _ => False) e s' → False) :
    PySem.W.WalkO q loose XP YP l.row.toRowW d [] (fun f vs => PySem.call f vs) := by
  refine Att.attach_call hn hdf fun w s₀ s₁ mg mb fa o pm cd doc a vs ns G Y ho hd hcd hmg hobj hints hlen hg => ?_
  have KX := hY w _ Y
  obtain ⟨fd, hb, hF⟩ := F w mg fa _ KX G.T.g hmg
  exact law_call KX G.T.g G.T.b G.T.builtins G.T.nolimit hg hobj hints (Nat.le_trans hlen hn2) hr hF hb (fun H hO hS => hsp w H a ns hlen hO hS) fun H e s' => hCX w H s₁ e s'
end L2
namespace L2
open PySem PySem.Spec PyProof.Rows
def defArgs (s : Stmt) : Arguments := match s with
  | .FunctionDef _ a _ _ _ _ _ _ _ _ => a
  | _ => { posonlyargs := [], args := [], vararg := none, kwonlyargs := [], kw_defaults := [], kwarg := none, defaults := [] }
def defBody (s : Stmt) : List Stmt := match s with
  | .FunctionDef _ _ b _ _ _ _ _ _ _ => b
  | _ => []
def defScope (s : Stmt) : Scope := match s with
  | .FunctionDef _ _ _ _ _ _ sc _ _ _ => sc
  | _ => { kind := .function, names := [], isGenerator := false, isCoroutine := false }
abbrev E0 : XK := fun _ _ _ => False
section
variable {P : Program} {w : World} {K : PySem.W.Frag} {mg : Str → Option Value} {base : Heap}
end
section
variable {X : Cx}
theorem pv (i : Nat) {x : Str} {pos : Pos} (hN : X.N[i]? = some x := by rfl) (hv : Vis X.env.scope x := by first | exact Or.inl rfl | exact Or.inr (Or.inl rfl) | exact Or.inr (Or.inr rfl)) (hd : (x == ("__debug__" : Str)) = false := by decide)
    (hcd : (x == ("__classdict__" : Str)) = false := by decide) : PE X (.Name x pos) (tVar i) := pe_var hN hv hd hcd
end
theorem iteF {A B : Prop} (h : B) : if false = true then A else B := by
  rw [if_neg Bool.false_ne_true]
  exact h
theorem iteT {A B : Prop} (h : A) : if true = true then A else B := by
  rw [if_pos rfl]
  exact h
def Same (H H' : Hp) : Prop := ∀ b o, H b = some o → H' b = some o
theorem Same.refl (H : Hp) : Same H H := fun _ _ h => h
theorem Same.trans {H H1 H2 : Hp} (a : Same H H1) (b : Same H1 H2) : Same H H2 := fun c o h => b c o (a c o h)
theorem Same.seq {K : PySem.W.Frag} {H H' : Hp} {a : Addr} {xs : List V} (e : Same H H') (h : SqL K H a xs) : SqL K H' a xs := by
  rcases h with (h | ⟨o, h⟩) | h
  · exact .inl (.inl (e _ _ h))
  · exact .inl (.inr ⟨o, e _ _ h⟩)
  · exact .inr h
end L2

namespace L2
open PySem PySem.Spec PyProof.Rows
section
variable {κ : Type} [DecidableEq κ]
def valV (kvs : List (κ × V)) (k : κ) : Option V := (kvs.find? fun kv => decide (kv.1 = k)).map (·.2)
def putK (kvs : List (κ × V)) (k : κ) (v : V) : List (κ × V) :=
  if (kvs.any fun kv => decide (kv.1 = k)) = true then kvs.map (fun kv => if kv.1 = k then (kv.1, v) else kv) else kvs ++ [(k, v)]
theorem valV_pos {p : κ × V} {r : List (κ × V)} {k : κ} (e : p.1 = k) : valV (p :: r) k = some p.2 := by simp [valV, List.find?_cons, e]
theorem valV_neg {p : κ × V} {r : List (κ × V)} {k : κ} (e : ¬ p.1 = k) : valV (p :: r) k = valV r k := by simp [valV, List.find?_cons, e]
theorem valV_any (k : κ) : ∀ kvs : List (κ × V), (kvs.any fun kv => decide (kv.1 = k)) = (valV kvs k).isSome
  | [] => rfl
  | p :: r => by
    rw [List.any_cons]
    by_cases e : p.1 = k
    · simp only [valV_pos e, decide_eq_true e, Bool.true_or, Option.isSome_some]
    · rw [valV_neg e, decide_eq_false e, Bool.false_or]; exact valV_any k r
theorem valV_map (k j : κ) (y : V) : ∀ kvs : List (κ × V), valV (kvs.map fun kv => if kv.1 = k then (kv.1, y) else kv) j = (valV kvs j).map fun x => if j = k then y else x
  | [] => rfl
  | p :: r => by
    have ih := valV_map k j y r
    rw [List.map_cons]
    by_cases h : p.1 = k
    · rw [if_pos h]
      by_cases e : p.1 = j
      · rw [valV_pos (p := (p.1, y)) e, valV_pos e, Option.map_some, if_pos (e.symm.trans h)]
      · rw [valV_neg (p := (p.1, y)) e, valV_neg e, ih]
    · rw [if_neg h]
      by_cases e : p.1 = j
      · rw [valV_pos (p := p) e, valV_pos e, Option.map_some, if_neg (fun z => h (e.trans z))]
      · rw [valV_neg (p := p) e, valV_neg e, ih]
theorem valV_snoc (k j : κ) (y : V) : ∀ kvs : List (κ × V), valV kvs k = none → valV (kvs ++ [(k, y)]) j = if j = k then some y else valV kvs j
  | [], _ => by
    by_cases e : k = j
    · rw [if_pos e.symm]; exact valV_pos (p := (k, y)) e
    · rw [if_neg (fun z => e z.symm)]; exact valV_neg (p := (k, y)) e
  | p :: r, hn => by
    rw [List.cons_append]
    have hk : ¬ p.1 = k := fun z => by rw [valV_pos z] at hn; cases hn
    rw [valV_neg hk] at hn
    have ih := valV_snoc k j y r hn
    by_cases e : p.1 = j
    · rw [valV_pos e, valV_pos e, if_neg (fun z => hk (e.trans z))]
    · rw [valV_neg e, valV_neg e, ih]
theorem valV_put (kvs : List (κ × V)) (k j : κ) (y : V) : valV (putK kvs k y) j = if j = k then some y else valV kvs j := by
  unfold putK
  by_cases a : (kvs.any fun kv => decide (kv.1 = k)) = true
  · rw [if_pos a, valV_map]
    rw [valV_any] at a
    by_cases e : j = k
    · obtain ⟨x, hx⟩ := Option.isSome_iff_exists.mp a
      rw [if_pos e, e, hx, Option.map_some, if_pos rfl]
    · rw [if_neg e]
      cases valV kvs j with
      | none => rfl
      | some x => rw [Option.map_some, if_neg e]
  · rw [if_neg a]
    refine valV_snoc k j y kvs ?_
    rw [valV_any] at a
    cases q : valV kvs k with
    | none => rfl
    | some x => rw [q] at a; exact (a rfl).elim
theorem length_putK (kvs : List (κ × V)) (k : κ) (v : V) : (putK kvs k v).length ≤ kvs.length + 1 := by
  unfold putK
  split
  · rw [List.length_map]; omega
  · rw [List.length_append, List.length_cons, List.length_nil]; omega
theorem RelO.isSome_eq {o : Option V} {u : Option Value} (r : RelO o u) : o.isSome = u.isSome := by
  cases o with
  | none => cases u with
    | none => rfl
    | some _ => exact (show False from r).elim
  | some _ => cases u with
    | none => exact (show False from r).elim
    | some _ => rfl
theorem RelO.getD {o : Option V} {u : Option Value} {d : V} {d' : Value} (r : RelO o u) (rd : RelV d d') : RelV (o.getD d) (u.getD d') := by
  cases o with
  | none => cases u with
    | none => exact rd
    | some _ => exact (show False from r).elim
  | some _ => cases u with
    | none => exact (show False from r).elim
    | some _ => exact r
theorem KV.val {kvs : List (κ × V)} {vs : List (κ × Value)} (r : KV kvs vs) (k : κ) : RelO (valV kvs k) (valueAt vs k) := by
  unfold KV at r
  induction r with
  | nil => exact True.intro
  | @cons p q ps qs h t ih =>
    obtain ⟨h1, h2⟩ := h
    by_cases e : p.1 = k
    · have e' : q.1 = k := h1.symm.trans e
      have b : valueAt (q :: qs) k = some q.2 := by simp [valueAt, List.find?_cons, e']
      rw [valV_pos e, b]; exact h2
    · have e' : ¬ q.1 = k := fun z => e (h1.trans z)
      have b : valueAt (q :: qs) k = valueAt qs k := by simp [valueAt, List.find?_cons, e']
      rw [valV_neg e, b]; exact ih
theorem KV.any {kvs : List (κ × V)} {vs : List (κ × Value)} (r : KV kvs vs) (k : κ) : (kvs.any fun kv => decide (kv.1 = k)) = vs.any fun kv => decide (kv.1 = k) := by
  unfold KV at r
  induction r with
  | nil => rfl
  | cons h t ih => rw [List.any_cons, List.any_cons, ih, h.1]
theorem KV.repl {kvs : List (κ × V)} {vs : List (κ × Value)} (r : KV kvs vs) (k : κ) {y : V} {u : Value} (ry : RelV y u) :
    KV (kvs.map fun kv => if kv.1 = k then (kv.1, y) else kv) (vs.map fun kv => if kv.1 = k then (kv.1, u) else kv) := by
  unfold KV at r ⊢
  induction r with
  | nil => exact .nil
  | @cons p q ps qs h t ih =>
    rw [List.map_cons, List.map_cons]
    refine .cons ?_ ih
    obtain ⟨h1, h2⟩ := h
    by_cases e : p.1 = k
    · rw [if_pos e, if_pos (h1.symm.trans e)]; exact ⟨h1, ry⟩
    · rw [if_neg e, if_neg (fun z => e (h1.trans z))]; exact ⟨h1, h2⟩
theorem KV.put {kvs : List (κ × V)} {vs : List (κ × Value)} (r : KV kvs vs) (k : κ) {y : V} {u : Value} (ry : RelV y u) : KV (putK kvs k y) (stored vs k u) := by
  unfold putK stored
  rw [r.any k]
  by_cases e : (vs.any fun kv => decide (kv.1 = k)) = true
  · rw [if_pos e, if_pos e]; exact r.repl k ry
  · rw [if_neg e, if_neg e]; exact Paired.snoc r ⟨rfl, ry⟩
theorem KV.length {kvs : List (κ × V)} {vs : List (κ × Value)} (r : KV kvs vs) : kvs.length = vs.length := Paired.length r
end
theorem kV_is {P : Program} {w : World} {k : Key} {u : Value} (r : RelV (kV k) u) : (mixKind P w).is k u = true := by
  cases k with
  | inl i => obtain ⟨t, e⟩ := (show ∃ t, u = Value.int i t from r); subst e; exact mixKind_int P w i t
  | inr x => obtain ⟨t, e⟩ := (show ∃ t, u = Value.str x t from r); subst e; exact mixKind_str P w x t
theorem items_are {P : Program} {w : World} : ∀ {ks : List Key} {us : List Value}, Vals (ks.map kV) us → ItemsAre (mixKind P w) ks us
  | [], _, r => by rw [List.map_nil] at r; cases r; exact .nil
  | k :: ks, _, r => by
    rw [List.map_cons] at r
    cases r with
    | cons h t => exact .cons (kV_is h) (items_are t)
abbrev KT (H : Hp) : List (List Key × V) → List (List Key × Addr × Value) → Prop := Paired fun p q => p.1 = q.1 ∧ H q.2.1 = some (.tup (p.1.map kV)) ∧ RelV p.2 q.2.2
theorem KT.val {H : Hp} {kvs : List (List Key × V)} {xs : List (List Key × Addr × Value)} (r : KT H kvs xs) (k : List Key) : RelO (valV kvs k) ((atKey xs k).map (·.2)) := by
  induction r with
  | nil => exact True.intro
  | @cons p q ps qs h t ih =>
    obtain ⟨h1, _, h2⟩ := h
    by_cases e : p.1 = k
    · have e' : q.1 = k := h1.symm.trans e
      have b : atKey (q :: qs) k = some q.2 := by simp [atKey, List.find?_cons, e']
      rw [valV_pos e, b]; exact h2
    · have e' : ¬ q.1 = k := fun z => e (h1.trans z)
      have b : atKey (q :: qs) k = atKey qs k := by simp [atKey, List.find?_cons, e']
      rw [valV_neg e, b]; exact ih
theorem KT.repl {H : Hp} {kvs : List (List Key × V)} {xs : List (List Key × Addr × Value)} (r : KT H kvs xs) (k : List Key) {y : V} {u : Value} (ry : RelV y u) :
    KT H (kvs.map fun kv => if kv.1 = k then (kv.1, y) else kv) (xs.map (putAt k u)) := by
  induction r with
  | nil => exact .nil
  | @cons p q ps qs h t ih =>
    rw [List.map_cons, List.map_cons]
    refine .cons ?_ ih
    obtain ⟨h1, h2, h3⟩ := h
    unfold putAt
    by_cases e : p.1 = k
    · rw [if_pos e, if_pos (h1.symm.trans e)]; exact ⟨h1, h2, ry⟩
    · rw [if_neg e, if_neg (fun z => e (h1.trans z))]; exact ⟨h1, h2, h3⟩
theorem KT.put {H : Hp} {kvs : List (List Key × V)} {xs : List (List Key × Addr × Value)} (r : KT H kvs xs) (k : List Key) {b : Addr} {y : V} {u : Value} (hb : H b = some (.tup (k.map kV))) (ry : RelV y u) :
    KT H (putK kvs k y) (storedH xs k b u) := by
  have e : (kvs.any fun kv => decide (kv.1 = k)) = (atKey xs k).isSome := by
    rw [valV_any, (r.val k).isSome_eq, Option.isSome_map]
  unfold putK storedH
  rw [e]
  by_cases q : (atKey xs k).isSome = true
  · rw [if_pos q, if_pos q]; exact r.repl k ry
  · rw [if_neg q, if_neg q]; exact Paired.snoc r ⟨rfl, hb, ry⟩
theorem KT.keeps {H H' : Hp} {kvs : List (List Key × V)} {xs : List (List Key × Addr × Value)} (r : KT H kvs xs) (ht : ∀ b ys, H b = some (.tup ys) → H' b = some (.tup ys)) : KT H' kvs xs :=
  Paired.mapP r fun _ _ z => ⟨z.1, ht _ _ z.2.1, z.2.2⟩
section
variable {P : Program} {w : World} {H : Hp} {h : Heap} {a : Addr}
theorem rd_of {u : HO} (ok : HOk P w H h) (e : Rd H a u) : ObjOk P w H h a u := e.ok ok
theorem dk_rd {kvs : List (Key × V)} (ok : HOk P w H h) (e : Rd H a (.dK kvs)) : kvs.length ≤ sizeLine ∧ (a == sysModules) = false ∧ ∃ vs, KV kvs vs ∧ h.DictOf (mixKind P w) a vs :=
  show ObjOk P w H h a (.dK kvs) from rd_of ok e
theorem dk_of {kvs : List (Key × V)} (ok : HOk P w H h) (e : H a = some (.dK kvs)) : kvs.length ≤ sizeLine ∧ (a == sysModules) = false ∧ ∃ vs, KV kvs vs ∧ h.DictOf (mixKind P w) a vs := dk_rd ok (.inl e)
theorem key_of {ks : List Key} (ok : HOk P w H h) (e : H a = some (.tup (ks.map kV))) : (tupleKind (mixKind P w)).is h ks a := by
  obtain ⟨_, its, r, o, h1, h2, n, h3⟩ := (show ObjOk P w H h a (.tup (ks.map kV)) from ok a _ e)
  exact ⟨o, its.toArray, n, h1, h2, h3, by simpa using items_are r⟩
theorem dt_rd {kvs : List (List Key × V)} (ok : HOk P w H h) (e : Rd H a (.dT kvs)) : kvs.length ≤ sizeLine ∧ (a == sysModules) = false ∧
    ∃ xs, KT H kvs xs ∧ h.DictOfH (tupleKind (mixKind P w)) a xs := by
  obtain ⟨z, y, xs, r, o, es, ep, h1, h2, h3, h4, h5⟩ := (show ObjOk P w H h a (.dT kvs) from rd_of ok e)
  refine ⟨z, y, xs, r, o, es, ep, h1, h2, h3, h4, fun x hx => ?_, h5⟩
  have all : ∀ {l : List (List Key × V)} {m : List (List Key × Addr × Value)}, KT H l m → ∀ x ∈ m, (tupleKind (mixKind P w)).is h x.1 x.2.1 := by
    intro l m q
    induction q with
    | nil => intro x hx; exact nomatch hx
    | @cons p q ps qs hq t ih =>
      intro x hx
      rcases List.mem_cons.mp hx with e | hx
      · subst e
        exact key_of ok (by rw [← hq.1]; exact hq.2.1)
      · exact ih x hx
  exact all r x hx
theorem dt_of {kvs : List (List Key × V)} (ok : HOk P w H h) (e : H a = some (.dT kvs)) : kvs.length ≤ sizeLine ∧ (a == sysModules) = false ∧
    ∃ xs, KT H kvs xs ∧ h.DictOfH (tupleKind (mixKind P w)) a xs := dt_rd ok (.inl e)
end
def DGet (H : Hp) (a : Addr) (y : V) (r : Option V) : Prop :=
  (∃ kvs k, Rd H a (.dK kvs) ∧ y = kV k ∧ r = valV kvs k) ∨ ∃ kvs k b, Rd H a (.dT kvs) ∧ y = .ref b ∧ H b = some (.tup (k.map kV)) ∧ r = valV kvs k
def DPut (H : Hp) (a : Addr) (y v : V) (H' : Hp) : Prop :=
  (∃ kvs k, H a = some (.dK kvs) ∧ y = kV k ∧ kvs.length < sizeLine ∧ H' = upd H a (.dK (putK kvs k v))) ∨
  ∃ kvs k b, H a = some (.dT kvs) ∧ y = .ref b ∧ H b = some (.tup (k.map kV)) ∧ kvs.length < sizeLine ∧ H' = upd H a (.dT (putK kvs k v))
theorem DPut.k {H : Hp} {a : Addr} {kvs : List (Key × V)} {k : Key} {v : V} (e : H a = some (.dK kvs)) (hl : kvs.length < sizeLine) : DPut H a (kV k) v (upd H a (.dK (putK kvs k v))) := .inl ⟨kvs, k, e, rfl, hl, rfl⟩
section
variable {X : Cx} {pins : List (Addr × Obj)} {σ : St} {H : Hp} {s : Shared} {a : Addr} {y v : V} {u r : Value} {o : Option V} {A : Around} {E : Value → Shared → Prop}
theorem Inv.big (I : Inv X pins σ H s) : sysModules < s.heap.objs.size := by
  have h : mainGlobals < s.heap.objs.size := (I.mod.glob.keeps I.bk).lt
  exact Nat.lt_trans (by decide) h
theorem d_write {h' : Heap} {t' : Nat} {ob : HO} (I : Inv X pins σ H s) (mu : Mut (H a)) (hs : Heap.SameBut a s.heap h') (he : ∃ q, h'.get? a = some q) (new : ObjOk X.prog X.w (upd H a ob) h' a ob) :
    Inv X pins σ (upd H a ob) { s with heap := h', toks := t' } :=
  I.write (x := a) (e := a) mu (.inl rfl) (fun b q hb z => (hs.2 b hb).trans z) he new
theorem dk_new {P : Program} {w : World} {H' : Hp} {h' : Heap} {kvs : List (Key × V)} {vs : List (Key × Value)} (z : kvs.length ≤ sizeLine) (hd : (a == sysModules) = false) (rel : KV kvs vs) (dd : h'.DictOf (mixKind P w) a vs) :
    ObjOk P w H' h' a (.dK kvs) := ⟨z, hd, vs, rel, dd⟩
theorem d_setItem {H' : Hp} {Q : Unit → Shared → Prop} (hu : A.units + 1 < cLine) (I : Inv X pins σ H s) (g : DPut H a y v H') (ry : RelV y u) (rv : RelV v r) (h : ∀ s', Inv X pins σ H' s' → Q () s') :
    wpAny (model X.prog X.w) A (setItem (.ref a) u r) Q E s := by
  rcases g with ⟨kvs, k, e, ey, l, eH⟩ | ⟨kvs, k, b, e, ey, eb, l, eH⟩
  · subst ey eH
    obtain ⟨z, hd, vs, rel, dd⟩ := dk_of I.hok e
    have hz : vs.length ≤ sizeLine := by rw [← rel.length]; exact z
    have hl : (putK kvs k v).length ≤ sizeLine := by have := length_putK kvs k v; omega
    refine wpAny_setItem_pairs (hsz := hz) (kV_is ry) dd fun h' dd' hs => h _ ?_
    have he : ∃ q, h'.get? a = some q := let ⟨q, _, _, hq, _⟩ := dd'; ⟨q, hq⟩
    exact d_write I (by rw [e]; exact True.intro) hs he (dk_new hl hd (rel.put k rv) dd')
  · subst ey eH
    cases (show u = Value.ref b from ry)
    obtain ⟨z, hd, xs, rel, dd⟩ := dt_of I.hok e
    have hz : xs.length ≤ sizeLine := by rw [← Paired.length rel]; exact z
    have hl : (putK kvs k v).length ≤ sizeLine := by have := length_putK kvs k v; omega
    refine wpAny_setItem_heap (hsz := hz) (tupleKind_room_in1 hu) (key_of I.hok eb) dd fun h' dd' hs => h _ ?_
    obtain ⟨q, es, ep, hq, h2, h3, h4, _, h5⟩ := dd'
    refine d_write I (by rw [e]; exact True.intro) hs ⟨q, hq⟩ ⟨hl, hd, _, (rel.put k eb rv).keeps fun c ys ec => ?_, q, es, ep, hq, h2, h3, h4, h5⟩
    rw [upd_ne (ne_of ec e (fun z => nomatch z))]
    exact ec
end
section
variable {X : Cx} {pins : List (Addr × Obj)} {σ : St} {H : Hp} {s : Shared} {a : Addr} {kvs : List (Key × V)} {k : Key} {u : Value} {A : Around} {E : Value → Shared → Prop}
end
def sDPut (td ty tv : TE) : TS := fun D σ H => tv σ H fun v H1 => td σ H1 fun x H2 => ty σ H2 fun y H3 => ∃ a H4, x = .ref a ∧ DPut H3 a y v H4 ∧ D.nx σ H4
section
variable {X : Cx} {o i e value : Expr} {pos pos' tpos : Pos} {td ty tv : TE}
theorem ps_dput (hu : X.A.units + 1 < cLine) (ho : PE X o td) (hi : PE X i ty) (hv : PE X value tv) (hs : swapsWith value (some (.Subscript o i pos')) pos.line X.env = pure false) :
    PS X (.Assign [.Subscript o i pos'] value pos) (sDPut td ty tv) := by
  intro pins s σ H D I h
  refine wpAny_Assign_Subscript (thn (hv pins s σ H _ I h) fun r s1 ⟨v, H1, I1, rv, q1⟩ => thn (ho pins s1 σ H1 _ I1 q1) fun u s2 ⟨x, H2, I2, rx, q2⟩ => thn (hi pins s2 σ H2 _ I2 q2) fun iv s3 hz_ => ?_) hs
  obtain ⟨y, H3, I3, ry, a, H4, ex, g, q3⟩ := hz_
  subst ex
  obtain rfl : u = Value.ref a := rx
  exact d_setItem hu I3 g ry rv fun s4 I4 => ⟨σ, H4, I4, q3⟩
end
theorem dk_empty {P : Program} {w : World} {H : Hp} (h : Heap) (hb : sysModules < h.objs.size) : ObjOk P w H (h.push { cls := .type "dict", data := .dict #[] }) h.objs.size (.dK []) :=
  ⟨Nat.zero_le _, beq_eq_false_iff_ne.mpr (Ne.symm (Nat.ne_of_lt hb)), [], .nil, Heap.DictOf.new h⟩
def tDNewK : TE := fun _ H Q => ∀ p, H p = none → Q (.ref p) (upd H p (.dK []))
section
variable {X : Cx} {pos : Pos}
theorem pe_dnewK : PE X (.Dict [] [] pos) tDNewK := fun pins s σ H Q I h =>
  wpAny_Dict_empty ⟨.ref s.heap.objs.size, _, I.laid (a := s.heap.objs.size) (o := .dK []) (t' := s.toks) (fun _ _ q => Heap.get?_push_of_some _ q) (Nat.le_refl _) (dk_empty s.heap I.big), rfl, h _ (I.hok.fresh (Nat.le_refl _))⟩
end
structure M2 (X : Cx) (o : Expr) (m : Str) (apos : Pos) (e f : Expr) (cpos : Pos) : Prop where
  base : attributeBase o m X.env (eval o X.env) = eval o X.env
  few : ((backTo cpos (starEach [e, f] X.env)).all (fun x => !x.1) && (backToKw cpos (keywordEach [] X.env)).all (fun x => x.1.isSome)
    && decide (([e, f] : List Expr).length + ([] : List Keyword).length + (if ([] : List Keyword).isEmpty then 0 else 1) < 30)) = true
  line : (apos.endLine == cpos.line) = true
  trees : backTo cpos (starEach [e, f] X.env) = [(false, eval e X.env), (false, eval f X.env)]
def IsD (H : Hp) (a : Addr) : Prop := (∃ kvs, Rd H a (.dK kvs)) ∨ ∃ kvs, Rd H a (.dT kvs)
theorem isD_at {X : Cx} {pins : List (Addr × Obj)} {σ : St} {H : Hp} {s : Shared} {a : Addr} (I : Inv X pins σ H s) (d : IsD H a) :
    s.TypeIs (.ref a) "dict" ∧ (∀ b, Value.ref a = .ref b → ∃ ob, s.heap.get? b = some ob ∧ ob.dict = none) ∧ (a == sysModules) = false := by
  rcases d with ⟨kvs, e⟩ | ⟨kvs, e⟩
  · obtain ⟨_, hd, vs, _, dd⟩ := dk_rd I.hok e
    refine ⟨dd.typeIs, fun b q => ?_, hd⟩
    cases q
    obtain ⟨ob, _, _, h1, h2, _⟩ := dd
    exact ⟨ob, h1, h2.2.1⟩
  · obtain ⟨_, hd, xs, _, dd⟩ := dt_rd I.hok e
    refine ⟨dd.typeIs, fun b q => ?_, hd⟩
    cases q
    obtain ⟨ob, _, _, h1, h2, _⟩ := dd
    exact ⟨ob, h1, h2.2.1⟩
section
variable {X : Cx} {pins : List (Addr × Obj)} {σ : St} {H : Hp} {s : Shared} {a : Addr} {y d : V} {u r : Value} {o : Option V} {A : Around} {E : Value → Shared → Prop}
theorem d_get2 {Q : Value → Shared → Prop} (hu : A.units + 1 < cLine) (I : Inv X pins σ H s) (g : DGet H a y o) (ry : RelV y u) (rd : RelV d r) (h : ∀ w' s', Inv X pins σ H s' → RelV (o.getD d) w' → Q w' s') :
    wpAny (model X.prog X.w) A (call (.builtin "dict.get") [.ref a, u, r]) Q E s := by
  rcases g with ⟨kvs, k, e, ey, l⟩ | ⟨kvs, k, b, e, ey, eb, l⟩
  · subst ey
    obtain ⟨z, hd, vs, rel, dd⟩ := dk_rd I.hok e
    refine call_meetsIn PySem.F.slot_dict_get dd.typeIs PySem.F.entry_dict_get (PySem.F.args_dict_get_3 _ _ _) (meets_dict_get_default (mixKind X.prog X.w) a (kV_is ry) hd r) ⟨_, dd.mapOf, h _ _ (I.tok _) ?_⟩
    rw [l]
    exact (rel.val k).getD rd
  · subst ey
    cases (show u = Value.ref b from ry)
    obtain ⟨z, hd, xs, rel, dd⟩ := dt_rd I.hok e
    refine call_meetsIn PySem.F.slot_dict_get dd.typeIs PySem.F.entry_dict_get (PySem.F.args_dict_get_3 _ _ _) (meetsH_dict_get_default (tupleKind (mixKind X.prog X.w)) a b hd r) ⟨tupleKind_room_in1 hu, k, xs, key_of I.hok eb, dd, h _ _ (I.tok _) ?_⟩
    rw [l]
    exact (rel.val k).getD rd
end
def tDGet2 (td ty tx : TE) : TE := fun σ H Q => td σ H fun x H1 => ∃ a, x = .ref a ∧ IsD H1 a ∧ ty σ H1 fun y H2 => tx σ H2 fun z H3 => ∃ o, DGet H3 a y o ∧ Q (o.getD z) H3
section
variable {X : Cx} {o e f : Expr} {apos cpos : Pos} {td ty tx : TE}
theorem pe_dget2 (hu : X.A.units + 1 < cLine) (ho : PE X o td) (he : PE X e ty) (hf : PE X f tx) (m : M2 X o "get" apos e f cpos) : PE X (.Call (.Attribute o "get" apos) [e, f] [] cpos) (tDGet2 td ty tx) := by
  intro pins s σ H Q I h
  refine wpAny_Call_method m.base m.few m.line PySem.F.plainAttrs_dict PySem.F.slot_dict_get PySem.F.type_dict_get (thn (ho pins s σ H _ I h) fun u s1 hz_ => ?_)
  obtain ⟨x, H1, I1, rx, a, ex, d, q1⟩ := hz_
  subst ex
  obtain rfl : u = Value.ref a := rx
  obtain ⟨t1, t2, _⟩ := isD_at I1 d
  refine ⟨t1, t2, ?_⟩
  rw [m.trees]
  refine Calls.callWith_builtin rfl (Calls.evalArgs_plain (Calls.spliced_cons (thn (he pins s1 σ H1 _ I1 q1) fun iv s2 ⟨y, H2, I2, ry, q2⟩ =>
    Calls.spliced_cons (thn (hf pins s2 σ H2 _ I2 q2) fun fv s3 ⟨z, H3, I3, rz, ov, g, q3⟩ => Calls.spliced_nil ?_))))
  exact d_get2 hu I3 g ry rz fun w' s4 I4 rw' => ⟨_, H3, I4, rw', q3⟩
end
section
variable {X : Cx} {pins : List (Addr × Obj)} {σ : St} {H : Hp} {s : Shared} {a : Addr} {kvs : List (Key × V)} {A : Around} {E : Value → Shared → Prop}
end
section
variable {X : Cx} {pins : List (Addr × Obj)} {σ : St} {H : Hp} {s : Shared} {a : Addr} {y : V} {u : Value} {A : Around} {E : Value → Shared → Prop}
end
end L2
namespace L2
open PySem PySem.Spec PyProof.Rows
section
variable {X : Cx}
end
section
variable {κ : Type} [DecidableEq κ]
end
end L2

set_option maxHeartbeats 4000000
namespace L2
open PySem
def FlyT (h : Heap) (a : Addr) (cls : Value) (dct : Option Addr) (hd : Value) : Prop :=
  ∃ oe vs, h.get? a = some oe ∧ oe.cls = cls ∧ oe.dict = dct ∧ oe.data = .fields vs ∧ vs[1]? = some hd ∧
    (hd = .none ∨ ∃ T oT ts, hd = .ref T ∧ T ≠ a ∧ h.get? T = some oT ∧ oT.data = .fields ts ∧ ts[3]? = some .none)
theorem dict_mapF (o : Obj) (f : Array Value → Array Value) : (o.mapFields f).dict = o.dict := by
  obtain ⟨c, d, dt, sl⟩ := o
  cases dt <;> rfl
section
variable {M : Model} {A : Around} {E : Value → Shared → Prop} {s : Shared}
theorem fly_entry {base : Heap} {env : Env} {outer : List Env} {L a : Addr} {oe : Obj} {vs : Array Value} {hd : Value} {b : Bool} {Q : Unit → Shared → Prop}
    (hfr : A.frames = some (env :: outer)) (hl : s.heap.FunFrames base (env :: outer)) (hf : env.frame = some L) (he : s.heap.get? a = some oe) (hdt : oe.data = .fields vs) (h1 : 1 < vs.size)
    (h : ∀ (h' : Heap) (T : Addr), s.heap.get? T = none → T ≠ a → (∀ b o, b ≠ a → b ∉ (env :: outer).filterMap (·.frame) → s.heap.get? b = some o → h'.get? b = some o) →
      (∀ b o, b ≠ a → s.heap.get? b = some o → ∃ sl, h'.get? b = some { o with slots := sl }) → FlyT h' a oe.cls oe.dict (.ref T) → Q () { s with heap := h' }) :
    wpAny M A (do setField (.ref a) 1 (← EntryCells.newEntry hd (← frameOf env) .none (rawInt L) .none (← entryPlaceOf L b))) (fun _ s' => wpAny M A (setFlight (.ref a) none) Q E s') E s := by
  have na : a ∉ (env :: outer).filterMap (·.frame) := fun hm => by
    obtain ⟨_, o, ho, hn⟩ := hl.mem hm
    rw [he] at ho; cases ho
    exact hn vs hdt
  refine wpAny_bind (wpAny_frameOf_fun hfr hl hf fun h₁ hs => ?_)
  refine wpAny_bind (wpAny_entryPlaceOf fun pl hpl => ?_)
  unfold EntryCells.newEntry newFields
  refine wpAny_bind (wpAny_newObj_type ?_ (hpl.sizeOk5 _ _ _ _ _))
  generalize hts : ([hd, Value.ref L, Value.none, rawInt L, Value.none] ++ (if pl.isEmpty then List.replicate 6 Value.none else pl)).toArray = ts
  have hsz : 3 < ts.size := by
    rw [← hts]
    simp only [List.size_toArray, List.length_append, List.length_cons, List.length_nil]
    omega
  have e1 : h₁.get? a = some oe := (hs.2.1 a na).trans he
  have lt1 : h₁.objs.size ≠ a := Nat.ne_of_gt (Heap.lt_size e1)
  have e2 : (h₁.push { cls := .type "traceback", dict := none, data := .fields ts }).get? a = some oe := Heap.get?_push_of_some _ e1
  refine wpAny_setField e2 hdt h1 ?_
  have d3 := Obj.data_mapFields hdt (·.setIfInBounds 1 (Value.ref h₁.objs.size))
  have e3 := Heap.get?_update_self (Obj.mapFields (·.setIfInBounds 1 (Value.ref h₁.objs.size))) e2 (Obj.isFreed_of_fields d3)
  have t3 : ((h₁.push { cls := .type "traceback", dict := none, data := .fields ts }).update a (Obj.mapFields (·.setIfInBounds 1 (Value.ref h₁.objs.size)))).get? h₁.objs.size = some { cls := .type "traceback", dict := none, data := .fields ts } := by
    rw [Heap.get?_update_other _ _ (Ne.symm lt1)]
    exact Heap.get?_push_size h₁ rfl
  unfold setFlight
  refine wpAny_bind (wpAny_field e3 d3 (x := .ref h₁.objs.size) (by simp [h1]) ?_)
  rw [if_pos (show (Value.ref h₁.objs.size != Value.none) = true by simp)]
  refine wpAny_setField t3 rfl hsz ?_
  have keep : ∀ b o, b ≠ a → h₁.get? b = some o → (((h₁.push { cls := .type "traceback", dict := none, data := .fields ts }).update a (Obj.mapFields (·.setIfInBounds 1 (Value.ref h₁.objs.size)))).update h₁.objs.size
      (Obj.mapFields (·.setIfInBounds 3 ((none : Option Addr).elim Value.none fun f => rawInt f)))).get? b = some o := fun b o nb e => by
    rw [Heap.get?_update_other _ _ (Nat.ne_of_gt (Heap.lt_size e)), Heap.get?_update_other _ _ (Ne.symm nb)]
    exact Heap.get?_push_of_some _ e
  refine h _ h₁.objs.size ?_ lt1 (fun b o nb nf e => keep b o nb ((hs.2.1 b nf).trans e)) (fun b o nb e => ?_) ?_
  · rw [hs.1]
    exact Heap.get?_none_of_le (Nat.le_refl _)
  · obtain ⟨sl, q⟩ := hs.2.2 b o e
    exact ⟨sl, keep b _ nb q⟩
  · refine ⟨_, _, ?_, Obj.cls_mapFields oe (·.setIfInBounds 1 (Value.ref h₁.objs.size)), dict_mapF oe (·.setIfInBounds 1 (Value.ref h₁.objs.size)), d3, by simp [h1], .inr ⟨h₁.objs.size, _, _, rfl, lt1,
      Heap.get?_update_self _ t3 (Obj.isFreed_of_fields (Obj.data_mapFields rfl _)), Obj.data_mapFields rfl _, by simp [hsz]⟩⟩
    rw [Heap.get?_update_other _ _ lt1]
    exact e3
theorem fly_note {base : Heap} {env : Env} {outer : List Env} {L a : Addr} {cls hd : Value} {dct : Option Addr} {Q : Unit → Shared → Prop}
    (hfr : A.frames = some (env :: outer)) (hl : s.heap.FunFrames base (env :: outer)) (hf : env.frame = some L) (hx : FlyT s.heap a cls dct hd)
    (h : ∀ (h' : Heap) (T : Addr), s.heap.get? T = none → T ≠ a → (∀ b o, b ≠ a → hd ≠ .ref b → b ∉ (env :: outer).filterMap (·.frame) → s.heap.get? b = some o → h'.get? b = some o) →
      (∀ b o, b ∈ (env :: outer).filterMap (·.frame) → s.heap.get? b = some o → ∃ sl, h'.get? b = some { o with slots := sl }) → FlyT h' a cls dct (.ref T) → Q () { s with heap := h' }) :
    wpAny M A (noteFrame (.ref a) env) (fun _ s' => wpAny M A (setFlight (.ref a) none) Q E s') E s := by
  obtain ⟨oe, vs, he, rfl, rfl, hdt, h1, hc⟩ := hx
  have fr : ∀ b o, b ∈ (env :: outer).filterMap (·.frame) → s.heap.get? b = some o → ∀ ws, o.data ≠ .fields ws := fun b o hb e => by
    obtain ⟨_, o', ho, hn⟩ := hl.mem hb
    rw [e] at ho; cases ho
    exact hn
  have na : ∀ b o, b ∈ (env :: outer).filterMap (·.frame) → s.heap.get? b = some o → b ≠ a := fun b o hb e z => by
    subst z
    rw [e] at he; cases he
    exact fr _ _ hb e vs hdt
  have z1 := (Array.getElem?_eq_some_iff.mp h1).1
  unfold noteFrame
  simp only [hf]
  refine wpAny_bind (wpAny_field he hdt h1 ?_)
  rcases hc with rfl | ⟨T, oT, ts, rfl, hTa, hT, hTd, h3⟩
  · rw [if_neg (by decide)]
    refine fly_entry hfr hl hf he hdt z1 fun h' T' n1 n2 k1 k2 fl => h h' T' n1 n2 (fun b o nb _ nf e => k1 b o nb nf e) (fun b o hb e => k2 b o (na b o hb e) e) fl
  · rw [if_pos (show (Value.ref T != Value.none) = true by simp)]
    refine wpAny_bind (wpAny_field hT hTd h3 ?_)
    rw [if_neg (show ¬ ((Value.none == rawInt L) = true) by simp [rawInt])]
    refine wpAny_bind (wpAny_setField hT hTd (Array.getElem?_eq_some_iff.mp h3).1 ?_)
    have oth : ∀ b, b ≠ T → (s.heap.update T (Obj.mapFields (·.setIfInBounds 3 Value.none))).get? b = s.heap.get? b := fun b nb => Heap.get?_update_other _ _ (Ne.symm nb)
    have fT : ∀ b o, s.heap.get? b = some o → (∀ ws, o.data ≠ .fields ws) → b ≠ T := fun b o e hn z => by
      rw [z, hT] at e; cases e
      exact hn ts hTd
    refine fly_entry (s := { s with heap := s.heap.update T (Obj.mapFields (·.setIfInBounds 3 Value.none)) }) hfr (hl.of_keeps fun b o e hn => ⟨o, (oth b (fT b o e hn)).trans e, rfl⟩) hf ((oth a (Ne.symm hTa)).trans he) hdt z1
      fun h' T' n1 n2 k1 k2 fl => h h' T' ?_ n2 (fun b o nb nT nf e => k1 b o nb nf ((oth b (fun z => nT (by rw [z]))).trans e)) (fun b o hb e => k2 b o (na b o hb e) ((oth b (fT b o e (fr b o hb e))).trans e)) fl
    cases q : s.heap.get? T' with
    | none => rfl
    | some o =>
      by_cases z : T' = T
      · subst z
        have := Heap.get?_update_self (Obj.mapFields (·.setIfInBounds 3 Value.none)) hT (Obj.isFreed_of_fields (Obj.data_mapFields hTd _))
        rw [this] at n1; cases n1
      · have n1' : (s.heap.update T (Obj.mapFields (·.setIfInBounds 3 Value.none))).get? T' = none := n1
        rw [oth T' z, q] at n1'; cases n1'
theorem fly_leave {base : Heap} {env : Env} {outer : List Env} {L a : Addr} {cls hd : Value} {dct : Option Addr} {Q : Unit → Shared → Prop}
    (hfr : A.frames = some (env :: outer)) (hl : s.heap.FunFrames base (env :: outer)) (hf : env.frame = some L) (hx : FlyT s.heap a cls dct hd)
    (h : ∀ (h' : Heap) (T : Addr), s.heap.get? T = none → T ≠ a → (∀ b o, b ≠ a → hd ≠ .ref b → b ∉ (env :: outer).filterMap (·.frame) → s.heap.get? b = some o → h'.get? b = some o) →
      (∀ b o, b ∈ (env :: outer).filterMap (·.frame) → s.heap.get? b = some o → ∃ sl, h'.get? b = some { o with slots := sl }) → FlyT h' a cls dct (.ref T) → Q () { s with heap := h' }) :
    wpAny M A (leaving env (.ref a)) Q E s := by
  unfold leaving
  exact wpAny_bind (fly_note hfr hl hf hx h)
end
end L2

namespace L2
open PySem PySem.Spec PyProof.Rows
def Flies (h0 h : Heap) (H : Hp) (a : Addr) (cls : Value) (dct : Option Addr) : Prop :=
  ∃ hd, FlyT h a cls dct hd ∧ H a = none ∧ h0.get? a = none ∧ ∀ T, hd = .ref T → H T = none ∧ h0.get? T = none
def CXE (P : Program) (w : World) : CXT := fun outer H s E e s' => ∃ a cls dct H', e = .ref a ∧ s'.os = s.os ∧ AllBare s'.gens ∧ Un (frs outer) [] H H' s.heap s'.heap ∧ HOk P w H' s'.heap ∧ Flies s.heap s'.heap H' a cls dct ∧ E cls dct H'
theorem ObjOk.there {P : Program} {w : World} {H : Hp} {h : Heap} {a : Addr} {o : HO} (x : ObjOk P w H h a o) : ∃ ob, h.get? a = some ob := by
  cases o with
  | lst xs => obtain ⟨_, _, _, _, e⟩ := x; exact ⟨_, e⟩
  | tup xs => obtain ⟨_, _, _, ob, e, _⟩ := x; exact ⟨_, e⟩
  | dK kvs => obtain ⟨_, _, _, _, o, _, _, e, _⟩ := x; exact ⟨_, e⟩
  | dT kvs => obtain ⟨_, _, _, _, o, _, _, e, _⟩ := x; exact ⟨_, e⟩
  | set S n => obtain ⟨o, _, _, _, e, _⟩ := x; exact ⟨_, e⟩
  | ins C dx fs => obtain ⟨_, _, _, e, _⟩ := x; exact ⟨_, e⟩
  | own y => exact x
  | xd fs => obtain ⟨_, ⟨_, _, _, e, _⟩, _⟩ := x; exact ⟨_, e⟩
  | rng lo hi => obtain ⟨_, _, _, e⟩ := x; exact ⟨_, e⟩
  | frz ob u => obtain ⟨e, _⟩ := x; exact ⟨_, e⟩
  | tbl ps => exact ⟨_, (show h.get? a = some _ from x)⟩
  | met f y => exact ⟨_, (show h.get? a = some _ from x)⟩
  | ext φ => obtain ⟨_, e, _⟩ := x; exact e
theorem frs_sub {env : Env} {l : List Env} {b : Addr} (hb : b ∈ frs l) : b ∈ frs (env :: l) := by
  unfold frs at *
  rw [List.filterMap_cons]
  cases env.frame with
  | none => exact hb
  | some L => exact List.mem_cons_of_mem _ hb
section
variable {X : Cx} {pins : List (Addr × Obj)} {σ : St} {H H' : Hp} {s : Shared} {h' : Heap} {a T : Addr} {cls hd : Value} {dct : Option Addr}
theorem s0_none (I : Inv X pins σ H s) (hex : X.ex = []) (n : s.heap.get? a = none) : X.s₀.heap.get? a = none := by
  cases e : X.s₀.heap.get? a with
  | none => rfl
  | some o =>
    obtain ⟨o1, e1⟩ := I.base.there a o e (by rw [hex]; simp)
    rw [n] at e1; cases e1
theorem hok_fly (I : Inv X pins σ H s) (keep : ∀ b o, b ≠ a → hd ≠ .ref b → b ∉ frs X.stack → s.heap.get? b = some o → h'.get? b = some o) (ha : H a = none) (hT : ∀ T, hd = .ref T → H T = none) : HOk X.prog X.w H h' := fun b u e => by
  have tr : ∀ c v, H c = some v → c ≠ a ∧ hd ≠ .ref c ∧ c ∉ frs X.stack := fun c v q => ⟨ne_of_none q ha, fun z => (by rw [hT c z] at q; cases q), fun z => (by rw [I.stkFree c z] at q; cases q)⟩
  refine (I.hok b u e).stay (fun c v hc q => ?_) (fun _ q => q) fun _ _ q => q
  obtain ⟨z, hz⟩ : ∃ v, H c = some v := by
    rcases hc with rfl | hc
    · exact ⟨_, e⟩
    · exact ⟨_, hc⟩
  exact keep c v (tr c z hz).1 (tr c z hz).2.1 (tr c z hz).2.2 q
theorem h_none (I : Inv X pins σ H s) (n : s.heap.get? T = none) : H T = none := by
  cases q : H T with
  | none => rfl
  | some u =>
    obtain ⟨ob, e⟩ := (I.hok T u q).there
    rw [n] at e; cases e
theorem left_ok (I : Inv X pins σ H s) (hex : X.ex = []) (hst : X.stack = X.env :: X.outer) (ha : H a = none) (na : X.s₀.heap.get? a = none) (hT : ∀ T, hd = .ref T → H T = none ∧ X.s₀.heap.get? T = none)
    (nT : s.heap.get? T = none) (keep : ∀ b o, b ≠ a → hd ≠ .ref b → b ∉ frs X.stack → s.heap.get? b = some o → h'.get? b = some o)
    (slot : ∀ b o, b ∈ frs X.stack → s.heap.get? b = some o → ∃ sl, h'.get? b = some { o with slots := sl }) (fl : FlyT h' a cls dct (.ref T)) :
    Un (frs X.outer) [] X.H₀ H X.s₀.heap h' ∧ HOk X.prog X.w H h' ∧ Flies X.s₀.heap h' H a cls dct := by
  have s0a : ∀ b o, X.s₀.heap.get? b = some o → b ≠ a ∧ hd ≠ .ref b := fun b o e => ⟨fun z => (by rw [z, na] at e; cases e), fun z => (by rw [(hT b z).2] at e; cases e)⟩
  have s0L : ∀ b o, X.s₀.heap.get? b = some o → b ∈ frs X.stack → b ∈ frs X.outer := fun b o e hb => by
    rcases List.mem_cons.mp (I.stkSub b hb) with z | z
    · rw [z] at e
      exact absurd (Nat.lt_of_lt_of_le (Heap.lt_size e) I.ok.above) (Nat.lt_irrefl _)
    · exact z
  have noex : ∀ b : Addr, b ∉ X.ex := fun b => by rw [hex]; simp
  refine ⟨⟨fun b o e n hb _ => ?_, fun b o e n hb _ => ?_, fun b o e n _ => I.base.free b o e n (noex b), fun b o e _ => ?_, I.base.tups, I.base.frzs, I.base.tbls⟩, hok_fly I keep ha fun T z => (hT T z).1, ?_⟩
  · exact keep b o (s0a b o e).1 (s0a b o e).2 (fun z => hb (s0L b o e z)) (I.base.keep b o e n hb (noex b))
  · obtain ⟨sl, e1⟩ := I.base.slot b o e n hb (noex b)
    obtain ⟨sl', e2⟩ := slot b _ (by rw [hst]; exact frs_sub hb) e1
    exact ⟨sl', e2⟩
  · obtain ⟨o1, e1⟩ := I.base.there b o e (noex b)
    by_cases hb : b ∈ frs X.stack
    · obtain ⟨sl, e2⟩ := slot b o1 hb e1
      exact ⟨_, e2⟩
    · exact ⟨_, keep b o1 (s0a b o e).1 (s0a b o e).2 hb e1⟩
  · exact ⟨.ref T, fl, ha, na, fun T' z => by cases z; exact ⟨h_none I nT, s0_none I hex nT⟩⟩
def PassesX (CX : CXT) (X : Cx) (E : St → XK) : Prop := ∀ (pins : List (Addr × Obj)) (σ : St) (H : Hp) (s : Shared) (e : Value) (s' : Shared), Inv X pins σ H s → CX X.stack H s (E σ) e s' → X.xe e s'
end
section
variable {P : Program} {w : World} {K : PySem.W.Frag} {mg : Str → Option Value} {base : Heap} {N : List Str} {qual : Str} {scope : Scope} {f : Addr} {cd : Value} {A : Around} {outer : List Env} {s : Shared} {H : Hp} {E : XK}
theorem pass_def : PassesX (CXE P w) (cxOf (CXE P w) P w K mg base N qual scope f cd A outer s H E) (fun _ => E) := by
  intro pins σ H1 s1 e s2 I hx
  obtain ⟨a, cls, dct, H2, he, hos, hg, un, hok, ⟨hd, fl, ha, na, hT⟩, q⟩ := hx
  subst he
  have I2 : Inv (cxOf (CXE P w) P w K mg base N qual scope f cd A outer s H E) pins σ H2 s2 := I.call' hos un hok hg (fun b z => absurd z (by simp))
  show wpAny _ _ (leaving _ (.ref a)) _ _ s2
  refine fly_leave (env := envOfC qual scope s.heap.objs.size f cd) (outer := outer) I.ok.frames I2.stack rfl fl fun h' T n1 n2 k1 k2 fl' => ?_
  obtain ⟨y1, y2, y3⟩ := left_ok I2 rfl rfl ha (s0_none I rfl na) (fun T z => ⟨(hT T z).1, s0_none I rfl (hT T z).2⟩) n1 k1 k2 fl'
  exact ⟨a, cls, dct, H2, rfl, I2.os, I2.bare, y1, y2, y3, q⟩
theorem own_def : PassesOwn (model P w) (A.deeper (envOfC qual scope s.heap.objs.size f cd)) (envOfC qual scope s.heap.objs.size f cd) (cxOf (CXE P w) P w K mg base N qual scope f cd A outer s H E).xe := PassesOwn.leaving
end
section
variable {P : Program} {w : World} {K : PySem.W.Frag} {mg : Str → Option Value} {base : Heap}
end
def tCallX (sp : Sp) (dvs : List V) (E : St → XK) (t : TA) : TE := fun σ H Q => t σ H fun vs H1 => sp (vs ++ dvs) H1 Q (E σ)
section
variable {X : Cx} {CX : CXT} {k : Nat} {f C : Addr} {fd : FuncData} {ps : List Str} {sp : Sp} {dvs : List V} {ds : List Value} {E : St → XK} {x m : Str} {p pos apos : Pos} {e o : Expr} {es : List Expr} {ta : TE} {t : TA}
theorem run_fnX {pins : List (Addr × Obj)} {σ : St} {H : Hp} {s : Shared} {Q : VK} {us : List Value} {vs : List V} (F : FnOk X.prog X.w X.K X.mg X.base CX k f fd ps sp) (hr : Room k X.A) (hb : Binds X.K fd ps ds) (hd : Vals dvs ds) (hx : PassesX CX X E)
    (I : Inv X pins σ H s) (r : Vals vs us) (h : sp (vs ++ dvs) H Q (E σ)) : wpAny (model X.prog X.w) X.A (call (.ref f) us) (EP X pins σ Q) X.xe s := by
  have r2 : Vals (vs ++ dvs) (us ++ ds) := r.append hd
  have hl : (us ++ ds).length = ps.length := by rw [← r2.length]; exact F.len _ _ _ _ h
  refine wpAny_call (codeAny_mono (F.run X.A X.stack s H ⟨us, []⟩ (us ++ ds) (vs ++ dvs) Q (E σ) hr I.env0 (hb s us I.kIn hl) r2 h) fun r s' hq => ?_)
  cases r with
  | error e => exact hx pins σ H s e s' I hq
  | ok fl =>
    cases fl with
    | ret u => exact I.after hq
    | next => exact False.elim hq
    | brk => exact False.elim hq
    | cont => exact False.elim hq
theorem pe_callX (F : FnOk X.prog X.w X.K X.mg X.base CX k f fd ps sp) (hr : Room k X.A) (hg : Gl X x) (hm : X.mg x = some (.ref f)) (hk : PySem.W.keepIn X.K (.ref f) = true) (hb : Binds X.K fd ps ds) (hd : Vals dvs ds) (hx : PassesX CX X E)
    (ha : PA X (e :: es) t) (hdb : (x == ("__debug__" : Str)) = false := by decide) (he : starEach (e :: es) X.env = (false, eval e X.env) :: starEach es X.env := by rfl) (hpl : (backTo pos (starEach es X.env)).any (·.1) = false := by rfl) :
    PE X (.Call (.Name x p) (e :: es) [] pos) (tCallX sp dvs E t) := by
  intro pins s σ H Q I h
  refine wpAny_Call_Name_kw (ld_glob I hg hm ?_ hdb)
  refine PySem.W.callWith_K (h₀ := X.base) I.ok.mod.kin hk (thn (ha pos pins s σ H _ I h) fun us s1 ⟨vs, H1, I1, r, q⟩ => ⟨I1.kIn, ?_⟩) he hpl
  exact run_fnX F hr hb hd hx I1 r q
end
end L2

namespace L2
open PySem PySem.Spec PyProof.Rows
section
variable {X : Cx} {E : St → XK} {x : Str} {C : Addr} {e₀ : Expr} {es : List Expr} {t : TA} {np cpos pos : Pos}
end
section
variable {X : Cx} {pins pins' : List (Addr × Obj)} {σ : St} {H H' : Hp} {s : Shared} {h' : Heap} {a T : Addr} {cls hd : Value} {dct : Option Addr}
def exO (a : Addr) (cls : Value) (dct : Option Addr) : HO := .ext fun h => ∃ oe vs, h.get? a = some oe ∧ oe.cls = cls ∧ oe.dict = dct ∧ oe.data = .fields vs
end
end L2

namespace L2
open PySem PySem.Spec PyProof.Rows PyProof.V PySem.SeqAt
mutual
inductive DatV (K : PySem.W.Frag) (H : Hp) : V → PyData → Prop
  | non : DatV K H .non .none
  | bl (b : Bool) : DatV K H (.bl b) (.bool b)
  | int (i : Int) : DatV K H (.int i) (.int i)
  | str (x : Str) : DatV K H (.str x) (.str x)
  | lst {a : Addr} {xs : List V} {ds : List PyData} : SqL K H a xs → DatAll K H xs ds → DatV K H (.ref a) (.list ds)
  | tup {a : Addr} {xs : List V} {ds : List PyData} : SqT K H a xs → DatAll K H xs ds → DatV K H (.ref a) (.tuple ds)
inductive DatAll (K : PySem.W.Frag) (H : Hp) : List V → List PyData → Prop
  | nil : DatAll K H [] []
  | cons {x : V} {xs : List V} {d : PyData} {ds : List PyData} : DatV K H x d → DatAll K H xs ds → DatAll K H (x :: xs) (d :: ds)
end
theorem datAll_ints (K : PySem.W.Frag) (H : Hp) : ∀ ns : List Int, DatAll K H (ns.map V.int) (ns.map PyData.int)
  | [] => .nil
  | n :: r => .cons (.int n) (datAll_ints K H r)
section
variable {X : Cx} {pins : List (Addr × Obj)} {σ : St} {H : Hp} {s : Shared}
mutual
theorem DatV.reads (I : Inv X pins σ H s) {v : V} {d : PyData} (h : DatV X.K H v d) {u : Value} (r : RelV v u) : ∃ as, Reads s.heap u d as := by
  cases h with
  | non => cases r; exact ⟨_, .none⟩
  | bl b => cases r; exact ⟨_, .bool b⟩
  | int i => obtain ⟨t, rfl⟩ := r; exact ⟨_, .int i t⟩
  | str x => obtain ⟨t, rfl⟩ := r; exact ⟨_, .str x t⟩
  | lst hq ha =>
    cases r
    obtain ⟨its, rv, ⟨o, n, e, c, _, dd⟩, _⟩ := I.list hq
    obtain ⟨as, q⟩ := DatAll.reads I ha rv
    exact ⟨_, .list e c dd (by simpa using q)⟩
  | tup hq ha =>
    cases r
    obtain ⟨its, rv, ⟨o, e, c, n, dd⟩, _⟩ := I.tuple hq
    obtain ⟨as, q⟩ := DatAll.reads I ha rv
    exact ⟨_, .tuple e c dd (by simpa using q)⟩
theorem DatAll.reads (I : Inv X pins σ H s) {vs : List V} {ds : List PyData} (h : DatAll X.K H vs ds) {us : List Value} (r : Vals vs us) : ∃ as, ReadsAll s.heap us ds as := by
  cases h with
  | nil => cases r; exact ⟨_, .nil⟩
  | cons h1 h2 =>
    cases r with
    | cons r1 r2 =>
      obtain ⟨a1, q1⟩ := DatV.reads I h1 r1
      obtain ⟨a2, q2⟩ := DatAll.reads I h2 r2
      exact ⟨_, .cons q1 q2⟩
end
def rNeD (K : PySem.W.Frag) : R2 := fun x y H Q => ∃ d d', DatV K H x d ∧ DatV K H y d' ∧ shaped d = true ∧ shaped d' = true ∧ noMix d d' = true ∧ Q (.bl (!same d d')) H
theorem op_neD (hu : X.A.units + 64 < cLine) : OpR X (compareOp .NotEq) (rNeD X.K) := by
  intro pins s σ H x y v u Q I rx ry h
  obtain ⟨d, d', h1, h2, s1, s2, nm, q⟩ := h
  obtain ⟨_, r1⟩ := h1.reads I rx
  obtain ⟨_, r2⟩ := h2.reads I ry
  exact ne_dataH_same r1 r2 s1 s2 hu nm ⟨.bl _, H, I, rfl, q⟩
theorem rNeD_ints {K : PySem.W.Frag} {a b : Addr} {ns ms : List Int} {Q : VK} (h1 : SqL K H a (ns.map V.int)) (h2 : SqL K H b (ms.map V.int)) (q : Q (.bl (!decide (ns = ms))) H) : rNeD K (.ref a) (.ref b) H Q :=
  ⟨_, _, .lst h1 (datAll_ints K H ns), .lst h2 (datAll_ints K H ms), PySem.W.shaped_ints ns, PySem.W.shaped_ints ms, by simp only [noMix]; exact PySem.W.noMix_ints ns ms, by simp only [PySem.Spec.same]; rw [PySem.W.same_ints]; exact q⟩
theorem ints_of_vals : ∀ {ns : List Int} {us : List Value}, Vals (ns.map V.int) us → IntsAre us ns
  | [], _, r => by cases r; exact .nil
  | n :: ns, _, r => by
    rw [List.map_cons] at r
    cases r with
    | cons r1 r2 =>
      obtain ⟨t, rfl⟩ := r1
      exact .cons n t (ints_of_vals r2)
theorem Inv.listI (I : Inv X pins σ H s) {a : Addr} {ns : List Int} (h : SqL X.K H a (ns.map V.int)) : ∃ vs : List Value, s.heap.IsList a vs.toArray ∧ IntsAre vs ns ∧ ns.length ≤ sizeLine := by
  obtain ⟨its, rv, p, hz⟩ := I.list h
  exact ⟨its, p.isList, ints_of_vals rv, by simpa using hz⟩
theorem call_sumL (hc : X.calm = true) : CallR X (.builtin "sum") (fun xs H Q => ∃ (p : Addr) (ns : List Int), xs = [.ref p] ∧ SqL X.K H p (ns.map V.int) ∧ Q (.int ns.sum) H) := by
  intro pins s σ H xs us Q I r h
  obtain ⟨p, ns, rfl, hq, q⟩ := h
  obtain ⟨u, rfl, ru⟩ := vals1 r
  cases ru
  obtain ⟨vs, hl, hi, _⟩ := I.listI hq
  obtain ⟨ys, hx⟩ := hi.allInts.items
  have hl' : s.heap.IsList p (intItems ys) := hx ▸ hl
  refine sum_intListG (I.ok.hd hc) hl' fun h' tk t' hk => ⟨.int ns.sum, H, I.kept hk, ⟨t', ?_⟩, q⟩
  have e1 : ns = ys.toList.map (·.1) := by
    rw [← nums_intItems, ← hx]
    exact (show numsOf vs.toArray.toList = ns from hi.numsOf).symm
  rw [preSum_eq, List.take_of_length_le (by simp), e1]
end
theorem eq_pure {M : Model} {A : Around} {m : Sem Unit} {Q : Unit → Shared → Prop} {E : Value → Shared → Prop} {s : Shared} (h : m = pure ()) (q : Q () s) : wpAny M A m Q E s := by rw [h]; exact wpAny_pure q
theorem exc_class {prog : Program} {w : World} {A : Around} {E : Value → Shared → Prop} {s : Shared} {K : PySem.W.Frag} {x D : Addr} {oe : Obj} {od : Option Obj} {Q : Option Value → Shared → Prop} (X : K.In s.heap) (I : PySem.W.InstAt s.heap x oe D od)
    (hga : PySem.W.findIn K (.ref D) "__getattribute__" = some (some (.builtin "BaseException.__getattribute__"))) (hno : PySem.W.findIn K (.ref D) "__getattr__" = some none) (hb : PySem.W.mroIn K D (.type "BaseException") = some true)
    (hm : PySem.W.mroIn K D (.type "object") = some true) (hf : PySem.W.findObj K D od "__class__" = some (.bind (.builtin "getset_descriptor.__get__") (.builtin "object.__class__"))) (h : Q (some (.ref D)) { s with toks := s.toks + 1 }) :
    wpAny (model prog w) A (getAttr? (.ref x) "__class__") Q E s := by
  obtain ⟨hh, g, d, t, os⟩ := s
  have L0 := I.type (M := model prog w)
  have L1 := PySem.W.looks_findIn (M := model prog w) X hga
  have L2 := PySem.W.looks_findIn (M := model prog w) X hno
  have L3 := PySem.W.looks_mroIn (M := model prog w) X hb
  have L4 := PySem.W.looks_find (M := model prog w) X I hf
  unfold getAttr? getAttrBy? getAttrBy
  refine wpAny_bind (wpAny_mkText (wpAny_bind (wpAny_attempt (wpAny_holding (wpAny_bind (L0.at (wpAny_bind (L1.at ?_))))))))
  show wpAny _ _ (getAttrByItsOwn _ _ _ _ _ _) _ _ _
  unfold getAttrByItsOwn
  refine wpAny_bind (show wpAny _ _ (typeLookup (.ref D) "__getattr__") _ _ _ from L2.at ?_)
  refine wpAny_bind (wpAny_attempt (wpAny_holding ?_))
  show wpAny _ _ (boundAndCalled _ _ _) _ _ _
  unfold boundAndCalled
  rw [PySem.F.excAttr_ValueError.ga.bind]
  refine wpAny_bind (wpAny_pure ?_)
  show wpAny _ _ (call (.builtin "BaseException.__getattribute__") [.ref x, .str "__class__" _]) _ _ _
  have hk : builtinKind "BaseException.__getattribute__" = some .slot := by decide +kernel
  have hsplit : splitId "BaseException.__getattribute__" = some ("BaseException", "__getattribute__") := by decide +kernel
  refine wpAny_call (codeAny_call_builtin PySem.F.excAttr_ValueError.ga.plain PySem.F.entry_bexc_ga ?_)
  have ha := PySem.F.args_bexc_ga (.ref x) (.str "__class__" t)
  simp only [checkBuiltinCall, hk, hsplit]
  refine wpAny_bind ?_
  unfold isInstance
  refine wpAny_bind (L0.at (L3.at ?_))
  rw [if_neg (by decide)]
  refine eq_pure ha ?_
  unfold Builtin.«object.__getattribute__»
  refine wpAny_bind ?_
  refine wpAny_pure ?_
  dsimp only
  refine wpAny_bind (wpAny_pure (wpAny_bind (L0.at (wpAny_bind (L4.at ?_)))))
  dsimp only
  show wpAny _ _ (holding [.builtin "object.__class__"] (call (.builtin "getset_descriptor.__get__") [.builtin "object.__class__", .ref x, .ref D]) >>= ret) _ _ _
  refine wpAny_bind (wpAny_holding (wpAny_call (PySem.W.class_get (s := ⟨hh, g, d, t + 1, os⟩) (ox := oe) (od := od) X I hm ?_)))
  refine wpAny_pure ?_
  exact PySem.W.handed_on rfl (wpAny_pure h)
structure XIs (K : PySem.W.Frag) (C : Addr) : Prop where
  hga : PySem.W.findIn K (.ref C) "__getattribute__" = some (some (.builtin "BaseException.__getattribute__"))
  hno : PySem.W.findIn K (.ref C) "__getattr__" = some none
  hb : PySem.W.mroIn K C (.type "BaseException") = some true
  hd : PySem.W.hasDictIn K C = true
  ha : PySem.W.findIn K (.ref C) "__class__" = some (some (.builtin "object.__class__"))
  hm : PySem.W.mroIn K C (.type "object") = some true
structure IsK (K : PySem.W.Frag) : Prop where
  hn : PySem.W.specialIn K (.builtin "object.__class__") "__get__" = some (some (.builtin "getset_descriptor.__get__"))
  htk : PySem.W.takesIn K (.builtin "object.__class__") = some true
inductive TyE (K : PySem.W.Frag) (H : Hp) : V → Value → Prop where
  | of {x : V} {t : Value} (h : TyOf K H x t) : TyE K H x t
  | exc {a C : Addr} (e : H a = some (exO a (.ref C) none)) (x : XIs K C) (k : IsK K) : TyE K H (.ref a) (.ref C)
  | excd {a C d : Addr} {φ : Heap → Prop} (e : H a = some (exO a (.ref C) (some d))) (e2 : H d = some (.ext φ)) (x : XIs K C) (k : IsK K) : TyE K H (.ref a) (.ref C)
def clsV : V → Value
  | .ref a => .ref a
  | .ty n => .type n
  | _ => .none
def isClsV : V → Bool
  | .ref _ => true
  | .ty _ => true
  | _ => false
theorem clsV_of {c : V} {u : Value} (h : isClsV c = true) (r : RelV c u) : u = clsV c := by
  cases c <;> first | exact r | exact absurd (show false = true from h) Bool.false_ne_true
theorem kitx_exc {K : PySem.W.Frag} {x D : Addr} (q : XIs K D) (k : IsK K) : PySem.W.KitX K (.ref x) (.ref D) (fun h => ∃ oe vs, h.get? x = some oe ∧ oe.cls = .ref D ∧ oe.dict = none ∧ oe.data = .fields vs) where
  ty := fun M h _ p => by
    obtain ⟨oe, vs, h1, h2, _⟩ := p
    exact h2 ▸ (PySem.W.Looks.ld h1).andThen .now
  it := fun _ _ X _ => by
    obtain ⟨cdD, hcD, _⟩ := PySem.W.any_some q.hd
    unfold PySem.W.clsIn at hcD
    split at hcD
    · next ho =>
      intro A' Q' E' s' k q
      unfold isType loadHead
      exact wpAny_bind (wpAny_loadPart (k _ _ (X _ _ ho)) (wpAny_pure q))
    · cases hcD
  ne := fun h tp dd its n sl X htp => by
    obtain ⟨cdD, hcD, _⟩ := PySem.W.any_some q.hd
    refine Bool.eq_false_iff.mpr fun z => ?_
    have e : D = tp := Value.ref.inj (beq_iff_eq.mp z)
    subst e
    unfold PySem.W.clsIn at hcD
    split at hcD
    · next ho =>
      have z := (X _ _ ho).symm.trans htp
      cases z
    · cases hcD
  ca := fun {prog w A E Q s} X p hq => by
    obtain ⟨oe, vs, h1, h2, h3, h4⟩ := p
    have I : PySem.W.InstAt s.heap x oe D none := ⟨h1, h2, by unfold PySem.W.notCls; rw [h4], by rw [h3]; trivial⟩
    have hf : PySem.W.findObj K D none "__class__" = some (.bind (.builtin "getset_descriptor.__get__") (.builtin "object.__class__")) := by
      obtain ⟨cd, hc, _⟩ := PySem.W.any_some q.hd
      unfold PySem.W.findObj
      rw [hc, Option.bind_some, q.ha, Option.bind_some]
      simp [k.hn, k.htk]
    exact exc_class X I q.hga q.hno q.hb q.hm hf hq
theorem kitx_excd {K : PySem.W.Frag} {x D dx : Addr} (q : XIs K D) (k : IsK K) : PySem.W.KitX K (.ref x) (.ref D) (fun h => (∃ oe vs, h.get? x = some oe ∧ oe.cls = .ref D ∧ oe.dict = some dx ∧ oe.data = .fields vs) ∧ ∃ od, h.get? dx = some od) where
  ty := fun M h _ p => by
    obtain ⟨⟨oe, vs, h1, h2, _⟩, _⟩ := p
    exact h2 ▸ (PySem.W.Looks.ld h1).andThen .now
  it := fun _ _ X _ => by
    obtain ⟨cdD, hcD, _⟩ := PySem.W.any_some q.hd
    unfold PySem.W.clsIn at hcD
    split at hcD
    · next ho =>
      intro A' Q' E' s' k q
      unfold isType loadHead
      exact wpAny_bind (wpAny_loadPart (k _ _ (X _ _ ho)) (wpAny_pure q))
    · cases hcD
  ne := fun h tp dd its n sl X htp => by
    obtain ⟨cdD, hcD, _⟩ := PySem.W.any_some q.hd
    refine Bool.eq_false_iff.mpr fun z => ?_
    have e : D = tp := Value.ref.inj (beq_iff_eq.mp z)
    subst e
    unfold PySem.W.clsIn at hcD
    split at hcD
    · next ho =>
      have z := (X _ _ ho).symm.trans htp
      cases z
    · cases hcD
  ca := fun {prog w A E Q s} X p hq => by
    obtain ⟨⟨oe, vs, h1, h2, h3, h4⟩, od, h5⟩ := p
    have I : PySem.W.InstAt s.heap x oe D (some od) := ⟨h1, h2, by unfold PySem.W.notCls; rw [h4], by rw [h3]; exact h5⟩
    have hf : PySem.W.findObj K D (some od) "__class__" = some (.bind (.builtin "getset_descriptor.__get__") (.builtin "object.__class__")) := by
      obtain ⟨cd, hc, _⟩ := PySem.W.any_some q.hd
      unfold PySem.W.findObj
      rw [hc, Option.bind_some, q.ha, Option.bind_some]
      simp [k.hn, k.htk]
    exact exc_class X I q.hga q.hno q.hb q.hm hf hq
section
variable {X : Cx}
theorem tyE_kit {pins : List (Addr × Obj)} {σ : St} {H : Hp} {s : Shared} {x : V} {u t : Value} (I : Inv X pins σ H s) (rx : RelV x u) (ty : TyE X.K H x t) : ∃ P : Heap → Prop, PySem.W.KitX X.K u t P ∧ P s.heap ∧ u ≠ .builtin "__main__.__loader__#opaque" := by
  cases ty with
  | exc e q k =>
    cases rx
    exact ⟨_, kitx_exc q k, (I.hok _ _ e).1, fun z => nomatch z⟩
  | excd e e2 q k =>
    cases rx
    exact ⟨_, kitx_excd q k, ⟨(I.hok _ _ e).1, (I.hok _ _ e2).2.1⟩, fun z => nomatch z⟩
  | of h =>
    cases h with
    | non => cases (show u = Value.none from rx); exact ⟨_, PySem.W.kitx_none, trivial, fun z => nomatch z⟩
    | bl y => cases (show u = Value.bool y from rx); exact ⟨_, PySem.W.kitx_bool, trivial, fun z => nomatch z⟩
    | int i => obtain ⟨t, q⟩ := (show ∃ t, u = Value.int i t from rx); cases q; exact ⟨_, PySem.W.kitx_int, trivial, fun z => nomatch z⟩
    | str y => obtain ⟨t, q⟩ := (show ∃ t, u = Value.str y t from rx); cases q; exact ⟨_, PySem.W.kitx_str, trivial, fun z => nomatch z⟩
    | flt y => obtain ⟨t, q⟩ := (show ∃ t, u = Value.float y t from rx); cases q; exact ⟨_, PySem.W.kitx_float, trivial, fun z => nomatch z⟩
    | @lst a xs ea =>
      cases (show u = Value.ref a from rx)
      obtain ⟨_, _, n, _, h1⟩ := (show ObjOk X.prog X.w H s.heap a (.lst xs) from I.hok a _ ea)
      exact ⟨_, PySem.W.kitx_list, ⟨_, h1, rfl⟩, fun z => nomatch z⟩
    | @frz a ob xs ea =>
      cases (show u = Value.ref a from rx)
      obtain ⟨_, _, _, n, _, h1⟩ := (show ObjOk X.prog X.w H s.heap a (.frz ob (.lst xs)) from I.hok a _ ea)
      exact ⟨_, PySem.W.kitx_list, ⟨_, h1, rfl⟩, fun z => nomatch z⟩
    | @tup a xs ea =>
      cases (show u = Value.ref a from rx)
      obtain ⟨_, _, _, p⟩ := (show ObjOk X.prog X.w H s.heap a (.tup xs) from I.hok a _ ea)
      obtain ⟨o, h1, h2, _⟩ := p
      exact ⟨_, PySem.W.kitx_tuple, ⟨o, h1, h2⟩, fun z => nomatch z⟩
    | @dK a kvs ea =>
      cases (show u = Value.ref a from rx)
      obtain ⟨_, _, vs, _, p⟩ := (show ObjOk X.prog X.w H s.heap a (.dK kvs) from I.hok a _ ea)
      obtain ⟨o, es, ep, h1, h2, _⟩ := p
      exact ⟨_, PySem.W.kitx_dict, ⟨o, h1, h2.1⟩, fun z => nomatch z⟩
    | @dT a kvs ea =>
      cases (show u = Value.ref a from rx)
      obtain ⟨_, _, xs, _, o, es, ep, h1, h2, _⟩ := (show ObjOk X.prog X.w H s.heap a (.dT kvs) from I.hok a _ ea)
      exact ⟨_, PySem.W.kitx_dict, ⟨o, h1, h2.1⟩, fun z => nomatch z⟩
    | @ins a C dx fs ea cl ha hn htk hm =>
      cases (show u = Value.ref a from rx)
      obtain ⟨mA, O, _⟩ := ins_get I.hok ea
      obtain ⟨od, J, _⟩ := O.look
      exact ⟨_, PySem.W.kitx_own (cl.get _) cl.hd ha hn htk hm, J, fun z => nomatch z⟩
theorem call_isinst : CallR X (.builtin "isinstance") (fun xs H Q => ∃ x c t b, xs = [x, c] ∧ isClsV c = true ∧ TyE X.K H x t ∧ PySem.W.kitOne X.K t (clsV c) = some b ∧ Q (.bl b) H) := by
  intro pins s σ H xs us Q I r h
  obtain ⟨x, c, t, b, rfl, hc, ty, e, q⟩ := h
  obtain ⟨u, v, rfl, ru, rv⟩ := vals2 r
  have := clsV_of hc rv
  subst this
  obtain ⟨P, kx, p, ne⟩ := tyE_kit I ru ty
  exact PySem.W.kia_one kx I.kIn p e ne fun tk => ⟨.bl b, H, I.tok tk, rfl, q⟩
end
end L2

namespace L2
open PySem
def closL (cells : List (Str × Addr)) : List (Str × NameKind) → List (Str × Addr) → List (Str × Addr)
  | [], acc => acc
  | (n, k) :: r, acc => closL cells r (if k == .free then (n, (cells.lookup n).getD 0) :: acc else acc)
def closF (env : Env) (x : Str × NameKind) (cs : List (Str × Addr)) : Sem (ForInStep (List (Str × Addr))) := match x with
  | (name, kind) => if (kind == .free) = true then do let a ← cellOf env name; pure (ForInStep.yield ((name, a) :: cs)) else pure (ForInStep.yield cs)
theorem closF_eq {env : Env} {n : Str} {k : NameKind} {cs : List (Str × Addr)} (h : k = .free → ∃ c, env.cells.lookup n = some c) :
    closF env (n, k) cs = pure (ForInStep.yield (if k == .free then (n, (env.cells.lookup n).getD 0) :: cs else cs)) := by
  unfold closF
  by_cases hk : (k == NameKind.free) = true
  · obtain ⟨c, hc⟩ := h (by simpa using hk)
    simp only [hk, if_true, cellOf, hc, pure_bind, Option.getD_some]
  · simp only [hk, if_false, Bool.false_eq_true]
theorem clos_eq {scope : Scope} {env : Env} (h : ∀ y ∈ scope.names, y.2 = .free → ∃ c, env.cells.lookup y.1 = some c) : closureFor scope env = pure (closL env.cells scope.names []) := by
  have key : ∀ (l : List (Str × NameKind)) (acc : List (Str × Addr)), (∀ y ∈ l, y.2 = .free → ∃ c, env.cells.lookup y.1 = some c) →
      forIn l acc (closF env) = (pure (closL env.cells l acc) : Sem (List (Str × Addr))) := by
    intro l
    induction l with
    | nil => intro acc _; rfl
    | cons p r ih =>
      obtain ⟨n, k⟩ := p
      intro acc hl
      rw [List.forIn_cons, closF_eq (fun z => hl (n, k) List.mem_cons_self z), pure_bind]
      exact ih _ fun y hy => hl y (List.mem_cons_of_mem _ hy)
  show (forIn scope.names [] (closF env) >>= fun cs => pure cs) = _
  rw [key scope.names [] h, pure_bind]
theorem closL_in {cells : List (Str × Addr)} {y : Str} {c : Addr} : ∀ {l : List (Str × NameKind)} {acc : List (Str × Addr)}, (∀ p ∈ l, p.2 = .free → ∃ c, cells.lookup p.1 = some c) → (acc.lookup y = some c → cells.lookup y = some c) →
    (closL cells l acc).lookup y = some c → cells.lookup y = some c
  | [], acc, _, ha, h => ha h
  | (n, k) :: r, acc, hl, ha, h => by
    refine closL_in (l := r) (fun p hp => hl p (List.mem_cons_of_mem _ hp)) ?_ h
    by_cases hk : (k == NameKind.free) = true
    · rw [if_pos hk, List.lookup_cons]
      obtain ⟨d, hd⟩ := hl (n, k) List.mem_cons_self (by simpa using hk)
      have hd' : cells.lookup n = some d := hd
      cases e : y == n with
      | true =>
        have : y = n := beq_iff_eq.mp e
        subst this
        intro q
        rw [hd'] at q ⊢
        exact q
      | false => exact ha
    · rw [if_neg hk]; exact ha
theorem closL_acc {cells : List (Str × Addr)} {y : Str} : ∀ {l : List (Str × NameKind)} {acc : List (Str × Addr)}, (∃ c, acc.lookup y = some c) → ∃ c, (closL cells l acc).lookup y = some c
  | [], _, h => h
  | (n, k) :: r, acc, h => by
    refine closL_acc (l := r) ?_
    by_cases hk : (k == NameKind.free) = true
    · rw [if_pos hk, List.lookup_cons]
      cases e : y == n with
      | true => exact ⟨_, rfl⟩
      | false => exact h
    · rw [if_neg hk]; exact h
theorem closL_has {cells : List (Str × Addr)} {y : Str} : ∀ {l : List (Str × NameKind)} {acc : List (Str × Addr)}, (y, NameKind.free) ∈ l → ∃ c, (closL cells l acc).lookup y = some c
  | [], _, h => nomatch h
  | (n, k) :: r, acc, h => by
    rcases List.mem_cons.mp h with q | q
    · cases q
      refine closL_acc (l := r) ?_
      rw [if_pos (by rfl), List.lookup_cons]
      simp
    · exact closL_has (l := r) q
section
variable {prog : Program} {w : World} {A : Around} {R : Result → Shared → Prop} {s : Shared}
theorem comp_loop {elt target iter : Expr} {ifs : List Expr} {scope : Scope} {pos : Pos} {it acc : Value} {env : Env} (I : Nat → Shared → Prop)
    (turn : ∀ n s, I n s → wpAny (model prog w) A (pyNext it) (fun r s₁ => match r with
      | none => R (.ok .next) s₁
      | some v => wpAny (model prog w) A (letOwnedTupleGo target it v) (fun _ s₂ => wpAny (model prog w) A (assign target env v) (fun _ s₃ =>
          wpAny (model prog w) A (forIn ifs true fun c r => if r = true then do let ok ← isTrue c env (eval c env); pure (ForInStep.yield ok) else pure (ForInStep.yield r)) (fun ok s₄ =>
            if ok = true then wpAny (model prog w) A (eval elt env) (fun x s₅ => wpAny (model prog w) A (call (.builtin "list.append") [acc, x]) (fun _ s₆ => ∃ m, m < n ∧ I m s₆) (fun _ _ => False) s₅) (fun _ _ => False) s₄
            else ∃ m, m < n ∧ I m s₄) (fun _ _ => False) s₃) (fun _ _ => False) s₂) (fun _ _ => False) s₁) (fun _ _ => False) s)
    (n : Nat) (h : I n s) : codeAny (model prog w) A (.compLoop (.ListComp elt [⟨target, iter, ifs, 0⟩] scope pos) 0 it acc env) R s := by
  refine codeAny_loop rfl I (fun n s hI => ?_) n h
  show wpAny _ A ((compTurn (.ListComp elt [⟨target, iter, ifs, 0⟩] scope pos) 0 it acc env).onRaise (fun x => do noteFrame x env; theTreesLotGoes x)) _ _ s
  refine wpAny_noted ?_
  rw [compTurn_list]
  have no : ∀ {α : Type} {t : Sem α} {Q : α → Shared → Prop} {E : Value → Shared → Prop} {s : Shared}, wpAny (model prog w) A t Q (fun _ _ => False) s → wpAny (model prog w) A t Q E s := fun {α t Q E s} z => wpAny_mono z (fun _ _ q => q) fun _ _ q => q.elim
  refine wpAny_bind (wpAny_standAt (wpAny_bind (no (wpAny_mono (turn n s hI) (fun r s₁ h₁ => ?_) fun _ _ z => z))))
  cases r with
  | none => exact wpAny_pure h₁
  | some v =>
    refine wpAny_bind (no (wpAny_mono h₁ (fun _ s₂ h₂ => ?_) fun _ _ z => z))
    refine wpAny_bind (no (wpAny_mono h₂ (fun _ s₃ h₃ => ?_) fun _ _ z => z))
    refine wpAny_bind (no (wpAny_mono h₃ (fun ok s₄ h₄ => ?_) fun _ _ z => z))
    cases ok with
    | false => exact wpAny_pure ⟨rfl, h₄⟩
    | true => exact wpAny_bind (wpAny_bind (no (wpAny_mono h₄ (fun x s₅ h₅ => wpAny_bind (no (wpAny_mono h₅ (fun _ s₆ h₆ => wpAny_pure (wpAny_pure ⟨rfl, h₆⟩)) fun _ _ z => z))) fun _ _ z => z)))
end
end L2

namespace L2
open PySem PySem.Spec PyProof.Rows
theorem relabel_look {scope : Scope} {env : Env} {y : Str} : (relabel scope env).names.lookup y = (scope.names.lookup y).map fun k => if (k == .free && env.scope.kind == .function && env.kindOf y == some .cell) then NameKind.cell else k := by
  unfold relabel
  show (scope.names.map _).lookup y = _
  generalize scope.names = l
  induction l with
  | nil => rfl
  | cons p r ih =>
    obtain ⟨n, k⟩ := p
    rw [List.map_cons]
    cases e : y == n with
    | true =>
      have : y = n := beq_iff_eq.mp e
      subst this
      by_cases h : (k == NameKind.free && env.scope.kind == .function && env.kindOf y == some .cell) = true
      · simp only [h, if_true, List.lookup_cons, beq_self_eq_true, Option.map_some]
      · simp only [h, if_false, List.lookup_cons, beq_self_eq_true, Option.map_some, Bool.false_eq_true]
    | false =>
      by_cases h : (k == NameKind.free && env.scope.kind == .function && env.kindOf n == some .cell) = true
      · simp only [h, if_true, List.lookup_cons, e]; exact ih
      · simp only [h, if_false, List.lookup_cons, e, Bool.false_eq_true]; exact ih
theorem mem_of_look {l : List (Str × NameKind)} {y : Str} {k : NameKind} (h : l.lookup y = some k) : (y, k) ∈ l := PySem.mem_of_lookup h
structure CompOk (scope fsc : Scope) (xs N' N : List Str) : Prop where
  kind : scope.kind = .function
  own : ∀ y ∈ scope.names, y.2 = .local → scope.names.lookup y.1 = some .local
  nocell : (scope.names.all fun y => y.2 != .cell) = true
  frees : (scope.names.all fun y => y.2 != .free || fsc.names.lookup y.1 == some .cell || fsc.names.lookup y.1 == some .free) = true
  mask : (N'.all fun y => scope.names.lookup y != some .local) = true
  same : ((N'.zip N).all fun p => p.1 == p.2 || scope.names.lookup p.1 == none) = true
  len : N'.length = N.length
def cxComp (X : Cx) (scope : Scope) (NN : List Str) (C : Addr) (s : Shared) (H : Hp) (pins : List (Addr × Obj)) (fp : List Addr) : Cx :=
  { X with N := NN, s₀ := s, H₀ := H, env := compEnvC scope (closL X.env.cells scope.names []) C X.env, outer := X.stack, stack := X.stack, ex := fp, fn := fun _ => false, pn := X.pn ++ pins, xe := fun _ _ => False }
section
variable {X : Cx} {pins : List (Addr × Obj)} {σ : St} {H : Hp} {s : Shared} {scope : Scope} {xs N' : List Str} {fp : List Addr}
theorem CompOk.free {fsc : Scope} {N : List Str} {y : Str} (c : CompOk scope fsc xs N' N) (h : scope.names.lookup y = some .free) : fsc.names.lookup y = some .cell ∨ fsc.names.lookup y = some .free := by
  have := List.all_eq_true.mp c.frees _ (mem_of_look h)
  simp at this
  exact this
theorem CompOk.vis {fsc : Scope} {N : List Str} {y : Str} {env : Env} (c : CompOk scope fsc xs N' N) (h : (relabel scope env).names.lookup y = some .cell ∨ (relabel scope env).names.lookup y = some .free) : scope.names.lookup y = some .free := by
  rw [relabel_look] at h
  cases e : scope.names.lookup y with
  | none => rw [e] at h; simp at h
  | some k =>
    have nc := List.all_eq_true.mp c.nocell _ (mem_of_look e)
    rw [e] at h
    cases k <;> simp at nc h ⊢
theorem relabel_loc {env : Env} {y : Str} (h : (relabel scope env).names.lookup y = some .local) : scope.names.lookup y = some .local := by
  rw [relabel_look] at h
  cases e : scope.names.lookup y with
  | none => rw [e] at h; simp at h
  | some k =>
    rw [e] at h
    simp only [Option.map_some, Option.some.injEq] at h
    split at h
    · cases h
    · rw [h]
theorem comp_start (I : Inv X pins σ H s) (cok : CompOk scope X.env.scope xs N' X.N) (hfp : ∀ b ∈ fp, FpOk X pins H b) (hfo : ∀ b ∈ fp, ∃ o, s.heap.get? b = some o) {h1 : Heap} {tk : Nat} (hn : h1.Ns s.heap.objs.size fun _ => none)
    (keep : ∀ b o, s.heap.get? b = some o → h1.get? b = some o) : Inv (cxComp X scope (xs ++ N') s.heap.objs.size s H pins fp) [] (List.replicate xs.length none ++ σ) H { s with heap := h1, toks := tk } := by
  have has : ∀ y, scope.names.lookup y = some .free → ∃ c, X.env.cells.lookup y = some c := fun y h => I.ok.has y (cok.free h)
  have cells : ∀ y c, (closL X.env.cells scope.names []).lookup y = some c → X.env.cells.lookup y = some c := fun y c h => by
    refine closL_in (l := scope.names) (acc := []) (fun p hp hk => ?_) (fun z => nomatch z) h
    have : X.env.scope.names.lookup p.1 = some .cell ∨ X.env.scope.names.lookup p.1 = some .free := by
      have := List.all_eq_true.mp cok.frees p hp
      simp [hk] at this
      exact this
    exact I.ok.has p.1 this
  have clt : ∀ y c, X.env.cells.lookup y = some c → c < s.heap.objs.size := fun y c h => by
    obtain ⟨v, q⟩ := I.cell y c h
    exact q.lt
  have sLs : ∀ b ∈ fp, b ∉ frs X.stack := fun b hb z => by
    rcases List.mem_cons.mp (I.stkSub b z) with q | q
    · exact (hfp b hb).2.1 q
    · exact (hfp b hb).2.2.1 q
  have cellK : ∀ c v, s.heap.IsCell c v → h1.IsCell c v := fun c v ⟨o, ho, hd⟩ => ⟨o, keep c o ho, hd⟩
  refine ⟨⟨I.ok.mod, ?_, I.ok.glob, I.ok.blt, Nat.le_refl _, fun y z c h1 h2 => I.ok.inj y z c (cells y c h1) (cells z c h2), fun y h => ?_, fun _ _ z => (nomatch z), I.ok.hd, I.ok.frames, .inl rfl, fun b hb => ⟨?_, fun y c h => ?_⟩, I.bs, Nat.le_trans I.ok.bsz I.sz, fun b o e hb => ?_, sLs, I.stack, I.stkFree⟩,
    rfl, I.bare, Un.kept keep, ⟨_, hn, fun i y v e1 e2 e3 => ?_⟩, fun y c h => ?_, I.hok.fresh (Nat.le_refl _), fun y c h => I.freeC y c (cells y c h), fun p hp => ?_, I.hok.kept keep, ?_⟩
  · show scope.kind = _; exact cok.kind
  · exact closL_has (mem_of_look (cok.vis h))
  · obtain ⟨o, e⟩ := hfo b hb
    exact Nat.ne_of_lt (Heap.lt_size e)
  · exact (hfp b hb).2.2.2.2.1 y c (cells y c h)
  · rcases (hfp b hb).2.2.2.1 with z | z
    · exact I.ok.noex b o e z
    · exact absurd (Nat.lt_of_lt_of_le (Heap.lt_size (I.ok.bs b o e).1) z) (Nat.lt_irrefl _)
  · have hi : xs.length ≤ i := by
      refine Nat.le_of_not_lt fun z => ?_
      rw [List.getElem?_append_left (by rw [List.length_replicate]; exact z), List.getElem?_replicate] at e2
      split at e2 <;> simp at e2
    have e1' : N'[i - xs.length]? = some y := by
      have e1 : (xs ++ N')[i]? = some y := e1
      rwa [List.getElem?_append_right hi] at e1
    have e2' : σ[i - xs.length]? = some (some v) := by
      rw [List.getElem?_append_right (by rw [List.length_replicate]; exact hi), List.length_replicate] at e2
      exact e2
    have mem := List.mem_of_getElem? e1'
    have hk : (relabel scope X.env).names.lookup y = some .cell ∨ (relabel scope X.env).names.lookup y = some .free := by
      rcases e3 with z | z
      · have := List.all_eq_true.mp cok.mask y mem
        rw [relabel_loc z] at this
        simp at this
      · exact z
    have hf := cok.vis hk
    have hx : X.N[i - xs.length]? = some y := by
      have hl : i - xs.length < X.N.length := by rw [← cok.len]; exact (List.getElem?_eq_some_iff.mp e1').1
      have hz : (N'.zip X.N)[i - xs.length]? = some (y, X.N[i - xs.length]) := by
        rw [List.getElem?_zip_eq_some]
        exact ⟨e1', List.getElem?_eq_getElem hl⟩
      have := List.all_eq_true.mp cok.same _ (List.mem_of_getElem? hz)
      simp [hf] at this
      rw [List.getElem?_eq_getElem hl, ← this]
    obtain ⟨m, hm, hl⟩ := I.loc
    have hv : Vis X.env.scope y := .inr (cok.free hf)
    obtain ⟨u, r, l⟩ := hl _ y v hx e2' hv
    refine ⟨u, r, .inr ⟨hk, ?_⟩⟩
    rcases l with ⟨k, _⟩ | ⟨_, c, hc, hcell⟩
    · rcases cok.free hf with z | z
      · rw [show X.env.scope.names.lookup y = some .local from k] at z; cases z
      · rw [show X.env.scope.names.lookup y = some .local from k] at z; cases z
    · obtain ⟨c', hc'⟩ := closL_has (cells := X.env.cells) (acc := []) (mem_of_look hf)
      have : c = c' := by
        have := cells y c' hc'
        rw [hc] at this
        exact Option.some.inj this
      subst this
      exact ⟨c, hc', cellK c _ hcell⟩
  · obtain ⟨v, q⟩ := I.cell y c (cells y c h)
    exact ⟨v, cellK c v q⟩
  · have hp' : p ∈ X.pn ++ pins := by simpa [cxComp] using hp
    obtain ⟨e, n, ne, nf, d⟩ := I.pin p hp'
    refine ⟨keep p.1 p.2 e, n, Nat.ne_of_lt (Heap.lt_size e), fun z => ?_, d⟩
    rcases List.mem_cons.mp (I.stkSub p.1 z) with q | q
    · exact ne q
    · exact nf q
  · show (List.replicate xs.length none ++ σ).length = (xs ++ N').length
    rw [List.length_append, List.length_append, List.length_replicate, I.len, cok.len]
def tTrue : TT := fun _ H Q => Q true H
def PTs (X : Cx) (ifs : List Expr) (t : TT) : Prop :=
  ∀ (pins : List (Addr × Obj)) (s : Shared) (σ : St) (H : Hp) (Q : Bool → Hp → Prop), Inv X pins σ H s → t σ H Q →
    wpAny (model X.prog X.w) X.A (forIn ifs true fun c r => if r = true then do let ok ← isTrue c X.env (eval c X.env); pure (ForInStep.yield ok) else pure (ForInStep.yield r)) (TP X pins σ Q) X.xe s
theorem pts_nil : PTs X [] tTrue := fun _ _ _ H _ I h => wpAny_tests_nil ⟨H, I, h⟩
theorem pts_one {c : Expr} {t : TT} (h : PT X c t) : PTs X [c] t := fun pins s σ H Q I hw => wpAny_tests_one (h pins s σ H Q I hw)
def tComp (k : Nat) (wi : TI) (g : TG) (tc : TT) (te : TE) : TE := fun σ H Q => wi σ H fun J H1 => ∀ acc, H1 acc = none → ∃ (W : Nat → List V → Hp → Prop) (n : Nat), W 0 [] (upd H1 acc (.lst [])) ∧
  ∀ i ys H2, W i ys H2 → H2 acc = some (.lst ys) ∧ ys.length < sizeLine ∧ ((i = n ∧ J.stop i H2 ∧ Q (.ref acc) H2) ∨ (i < n ∧ J.go i H2 ∧ ∀ x H3, J.yld i H2 x H3 → ∀ τ : St, τ.length = k → g x (τ ++ σ) H3 fun τ2 H4 =>
    (∃ τ' : St, τ'.length = k ∧ τ2 = τ' ++ σ) ∧ tc τ2 H4 fun b H5 => if b = true then te τ2 H5 fun v H6 => H6 acc = some (.lst ys) ∧ W (i + 1) (ys ++ [v]) (upd H6 acc (.lst (ys ++ [v]))) else W (i + 1) ys H5))
theorem comp_back (I : Inv X pins σ H s) (hfp : ∀ b ∈ fp, FpOk X pins H b) {NN : List Str} {pins' : List (Addr × Obj)} {τ : St} {H' : Hp} {s' : Shared} (J : Inv (cxComp X scope NN s.heap.objs.size s H pins fp) pins' τ H' s') : Inv X pins σ H' s' :=
  I.call' (ch := fp) (J.os.trans rfl) J.base J.hok J.bare fun b hb => ⟨(hfp b hb).2.2.2.1, (hfp b hb).2.1, (hfp b hb).2.2.2.2.1, (hfp b hb).2.2.2.2.2⟩
end
end L2

namespace L2
open PySem PySem.Spec PyProof.Rows
section
variable {X : Cx} {scope : Scope} {xs N' : List Str} {target iter elt : Expr} {ifs : List Expr} {pos : Pos} {wi : TI} {g : TG} {tc : TT} {te : TE}
theorem comp_block (hc : X.calm = true) (cok : CompOk scope X.env.scope xs N' X.N) (hi : PI X target iter wi)
    (hg : ∀ C s H pins fp, PG (cxComp X scope (xs ++ N') C s H pins fp) target g) (ht : ∀ C s H pins fp, PTs (cxComp X scope (xs ++ N') C s H pins fp) ifs tc) (he : ∀ C s H pins fp, PE (cxComp X scope (xs ++ N') C s H pins fp) elt te)
    {pins : List (Addr × Obj)} {s : Shared} {σ : St} {H : Hp} {Q : VK} {RR : Value → Addr → Result → Shared → Prop} (I : Inv X pins σ H s) (h : tComp xs.length wi g tc te σ H Q)
    (hRR : ∀ a C m H' s', Inv X pins σ H' s' → FpOk X pins H' C → s'.heap.Ns C m → Q (.ref a) H' → RR (.ref a) C (.ok .next) s') :
    wpAny (model X.prog X.w) X.A (eval iter X.env) (fun x s₁ => wpAny (model X.prog X.w) X.A (pyIter x) (fun it s₂ => wpAny (model X.prog X.w) X.A (newList []) (fun acc s₃ =>
      wpAny (model X.prog X.w) X.A (newFunctionEnv scope X.env.globals (closL X.env.cells scope.names []) [] X.env.qual none .none (some X.env)) (fun cenv s₄ =>
        codeAny (model X.prog X.w) X.A (.compStart (.ListComp elt [⟨target, iter, ifs, 0⟩] scope pos) 0 it acc { cenv with scope := relabel scope X.env }) (RR acc cenv.locals) s₄) X.xe s₃) X.xe s₂) X.xe s₁) X.xe s := by
  refine thn (hi pins s σ H _ I h) fun v s1 h1 => thn h1 fun itv s2 h2 => ?_
  obtain ⟨it, fp, tn, J, H2, e, I2, T, st2, f2, h3⟩ := h2
  subst e
  have ob2 : ∀ b ∈ fp, ∃ o, s2.heap.get? b = some o := fun b hb => let ⟨o, q, _⟩ := T.obj _ _ st2 b hb; ⟨o, q⟩
  have fresh2 : H2 s2.heap.objs.size = none := I2.fresh
  have I3 := I2.lnew (its := []) (ys := []) (t' := s2.toks) .nil (Nat.zero_le _)
  refine wpAny_newObj_type (T := "list") ?_
  obtain ⟨W, n, w0, turn⟩ := h3 s2.heap.objs.size fresh2
  generalize hs3 : ({ s2 with heap := s2.heap.push { cls := .type "list", data := .seq ([] : List Value).toArray }, toks := s2.toks } : Shared) = s3 at I3
  have sub3 : ∀ b o, s2.heap.get? b = some o → s3.heap.get? b = some o := fun b o q => by rw [← hs3]; exact Heap.get?_push_of_some _ q
  have f3 : ∀ b ∈ fp, FpOk X pins (upd H2 s2.heap.objs.size (.lst [])) b := fun b hb => by
    obtain ⟨o, q⟩ := ob2 b hb
    obtain ⟨q0, q1⟩ := f2 b hb
    exact ⟨by rw [upd_ne (Nat.ne_of_lt (Heap.lt_size q))]; exact q0, q1⟩
  have ob3 : ∀ b ∈ fp, ∃ o, s3.heap.get? b = some o := fun b hb => let ⟨o, q⟩ := ob2 b hb; ⟨o, sub3 b o q⟩
  have st3 : tn 0 s3.heap := T.keep _ _ _ st2 fun b _ o q => sub3 b o q
  refine wpAny_newFunctionEnv (fun y hy z => ?_) (fun y hy => nomatch hy) (fun h4 hns hsb => ?_) cok.kind
  · have := List.all_eq_true.mp cok.nocell y hy
    rw [z] at this
    simp at this
  have keep4 : ∀ b o, s3.heap.get? b = some o → h4.get? b = some o := fun b o q => (hsb.2 b (Nat.ne_of_lt (Heap.lt_size q))).trans (Heap.get?_push_of_some _ q)
  have J4 := comp_start (tk := s3.toks + ([] : List (Str × Value)).length) I3 cok f3 ob3 hns keep4
  have st4 : tn 0 h4 := T.keep _ _ _ st3 fun b _ o q => keep4 b o q
  generalize hY : cxComp X scope (xs ++ N') s3.heap.objs.size s3 (upd H2 s2.heap.objs.size (.lst [])) pins fp = Y at J4
  have hP : Y.prog = X.prog := by rw [← hY]; rfl
  have hw : Y.w = X.w := by rw [← hY]; rfl
  have hK : Y.K = X.K := by rw [← hY]; rfl
  have hcY : Y.calm = true := by rw [← hY]; exact hc
  have stat : ∀ {H' : Hp}, (∀ b ∈ fp, H' b = none) → ∀ b ∈ fp, FpOk Y [] H' b := fun {H'} hn b hb => by
    obtain ⟨o, q⟩ := ob3 b hb
    rw [← hY]
    refine ⟨hn b hb, Nat.ne_of_lt (Heap.lt_size q), fun z => ?_, .inl hb, fun y c hy => ?_, fun p hp => ?_⟩
    · rcases List.mem_cons.mp (I3.stkSub b z) with w | w
      · exact (f3 b hb).2.1 w
      · exact (f3 b hb).2.2.1 w
    · have hx := J4.ok.exf b (by rw [← hY]; exact hb)
      rw [← hY] at hx
      exact hx.2 y c hy
    · have hp' : p ∈ X.pn ++ pins := by simpa [cxComp] using hp
      exact (f3 b hb).2.2.2.2.2 p hp'
  have loop : ∀ s5 : Shared, Inv Y [] (List.replicate xs.length none ++ σ) (upd H2 s2.heap.objs.size (.lst [])) s5 → tn 0 s5.heap →
      codeAny (model X.prog X.w) X.A (.compLoop (.ListComp elt [⟨target, iter, ifs, 0⟩] scope pos) 0 (.ref it) (.ref s2.heap.objs.size) Y.env) (RR (.ref s2.heap.objs.size) s3.heap.objs.size) s5 := by
    intro s5 J5 st5
    refine comp_loop (fun k s' => ∃ (i : Nat) (ys : List V) (H' : Hp) (τ : St), k + i = n ∧ τ.length = xs.length ∧ Inv Y [] (τ ++ σ) H' s' ∧ tn i s'.heap ∧ (∀ b ∈ fp, H' b = none) ∧ W i ys H') ?_ n
      ⟨0, [], _, List.replicate xs.length none, rfl, List.length_replicate .., J5, st5, fun b hb => (f3 b hb).1, w0⟩
    rintro k s6 ⟨i, ys, H6, τ, hk, hτ, J6, st6, fr6, w6⟩
    obtain ⟨hacc, hlen, hcase⟩ := turn i ys H6 w6
    rcases hcase with ⟨hin, stop, hq⟩ | ⟨hin, go, step⟩
    · refine thn (A := X.A) (by have := T.done Y hP hw hK hcY i [] s6 (τ ++ σ) H6 (fun _ _ => False) J6 (stat fr6) st6 stop; rw [← hY] at this; exact this) fun r s7 q7 => ?_
      obtain ⟨hr, J7⟩ := q7
      subst hr
      rw [hY] at J7
      obtain ⟨m7, hn7, _⟩ := J7.loc
      have e1 : Y.env.locals = s3.heap.objs.size := by rw [← hY]; rfl
      rw [e1] at hn7
      have J7' : Inv X pins σ H6 s7 := comp_back I3 f3 (by rw [hY]; exact J7)
      refine hRR _ _ m7 H6 s7 J7' ?_ hn7 hq
      have e2 := J7.free
      rw [e1] at e2
      exact I3.fpOk (Nat.le_refl _) e2
    · refine thn (A := X.A) (by have := T.item Y hP hw hK hcY i [] s6 (τ ++ σ) H6 (fun _ _ => False) J6 (stat fr6) st6 go; rw [← hY] at this; exact this) fun r s7 q7 => ?_
      obtain ⟨u, hr, q7⟩ := q7
      subst hr
      have hA : Y.A = X.A := by rw [← hY]; rfl
      rw [hY] at q7
      rw [hA] at q7
      refine thn q7 fun _ s8 q8 => ?_
      obtain ⟨x8, H8, J8, r8, y8, st8, fr8⟩ := q8
      have J8' := J8.pinned (stat fr8) (T.obj _ _ st8)
      have g8 := hg s3.heap.objs.size s3 (upd H2 s2.heap.objs.size (.lst [])) pins fp
      have t8 := ht s3.heap.objs.size s3 (upd H2 s2.heap.objs.size (.lst [])) pins fp
      have e8 := he s3.heap.objs.size s3 (upd H2 s2.heap.objs.size (.lst [])) pins fp
      have a8 : ∀ {Z : Cx}, Z = Y → MtM Z "list.append" rAppend := fun {Z} _ => mt_append
      have hxe : Y.xe = fun _ _ => False := by rw [← hY]; rfl
      rw [hY] at g8 t8 e8
      have back : ∀ {τ2 : St} {H9 : Hp} {s9 : Shared}, Inv Y ([] ++ pinsAt fp s8.heap) τ2 H9 s9 → Inv Y [] τ2 H9 s9 ∧ tn (i + 1) s9.heap ∧ ∀ b ∈ fp, H9 b = none := fun {τ2 H9 s9} J9 => by
        refine ⟨J9.unpinned, T.keep _ _ _ st8 fun b hb o q => (J9.pin (b, o) (List.mem_append_right _ (List.mem_append_right _ (mem_pinsAt hb q)))).1, fun b hb => ?_⟩
        obtain ⟨o, q, d⟩ := T.obj _ _ st8 b hb
        exact (J9.pin (b, o) (List.mem_append_right _ (List.mem_append_right _ (mem_pinsAt hb q)))).2.1
      have z1 := g8 _ s8 (τ ++ σ) H8 x8 u _ J8' r8 (step x8 H8 y8 τ hτ)
      rw [hP, hw, hA, hxe] at z1
      refine thn z1 fun _ s9 q9 => ?_
      obtain ⟨τ9, H9, J9, ⟨τ', hτ', e9⟩, q9⟩ := q9
      subst e9
      have z2 := t8 _ s9 (τ' ++ σ) H9 _ J9 q9
      rw [hP, hw, hA, hxe] at z2
      refine thn z2 fun b s10 q10 => ?_
      obtain ⟨H10, J10, q10⟩ := q10
      cases b with
      | false =>
        rw [if_neg Bool.false_ne_true] at q10 ⊢
        obtain ⟨b1, b2, b3⟩ := back J10
        exact ⟨k - 1, by omega, i + 1, ys, H10, τ', by omega, hτ', b1, b2, b3, q10⟩
      | true =>
        rw [if_pos rfl] at q10 ⊢
        have z3 := e8 _ s10 (τ' ++ σ) H10 _ J10 q10
        rw [hP, hw, hA, hxe] at z3
        refine thn z3 fun y s11 q11 => ?_
        obtain ⟨v11, H11, J11, r11, hacc11, w11⟩ := q11
        have z4 := a8 rfl _ s11 (τ' ++ σ) H11 (.ref s2.heap.objs.size) [v11] (.ref s2.heap.objs.size) [y] (fun _ H' => W (i + 1) (ys ++ [v11]) H') J11 rfl (.cons r11 .nil) ⟨_, ys, v11, rfl, rfl, hacc11, hlen, w11⟩
        rw [hP, hw, hA, hxe] at z4
        refine thn z4 fun _ s12 q12 => ?_
        obtain ⟨_, H12, J12, _, w12⟩ := q12
        obtain ⟨b1, b2, b3⟩ := back J12
        exact ⟨k - 1, by omega, i + 1, ys ++ [v11], H12, τ', by omega, hτ', b1, b2, b3, w12⟩
  have env4 : ({ newEnv scope s3.heap.objs.size X.env.globals (closL X.env.cells scope.names []) X.env.qual none .none (some X.env) X.env.builtins with scope := relabel scope X.env } : Env) = Y.env := by rw [← hY]; rfl
  have l4 := loop _ J4 st4
  rw [← env4] at l4
  exact codeAny_compStart_list l4 (T.self _ 0 _ _ _ st4 l4)
theorem clos_of {pins : List (Addr × Obj)} {s : Shared} {σ : St} {H : Hp} (I : Inv X pins σ H s) (cok : CompOk scope X.env.scope xs N' X.N) : closureFor scope X.env = pure (closL X.env.cells scope.names []) := by
  refine clos_eq fun p hp hk => ?_
  have : X.env.scope.names.lookup p.1 = some .cell ∨ X.env.scope.names.lookup p.1 = some .free := by
    have := List.all_eq_true.mp cok.frees p hp
    simp [hk] at this
    exact this
  exact I.ok.has p.1 this
theorem pe_comp (hc : X.calm = true) (cok : CompOk scope X.env.scope xs N' X.N) (hi : PI X target iter wi)
    (hg : ∀ C s H pins fp, PG (cxComp X scope (xs ++ N') C s H pins fp) target g) (ht : ∀ C s H pins fp, PTs (cxComp X scope (xs ++ N') C s H pins fp) ifs tc) (he : ∀ C s H pins fp, PE (cxComp X scope (xs ++ N') C s H pins fp) elt te)
    (hs : ∀ x, foldedSetIterable iter X.env x = pure x := by intro _; rfl) : PE X (.ListComp elt [⟨target, iter, ifs, 0⟩] scope pos) (tComp xs.length wi g tc te) := by
  intro pins s σ H Q I h
  rw [eval_ListComp]
  refine wpAny_comprehension_free (use := none) rfl hs (clos_of I cok) cok.kind cok.own (comp_block hc cok hi hg ht he I h fun a C m H' s' J fC hn q => ⟨m, hn, fun h' hs' => ?_⟩)
  obtain ⟨f0, f1, f2, f3, f4, f5⟩ := fC
  exact ⟨.ref a, H', J.turned (t' := s'.toks) (fun b o hb e => (hs'.2 b hb).trans e) f0 f1 f3 f4 f5, rfl, q⟩
theorem ps_setC {j : Nat} {y : Str} {py spos : Pos} (hN : X.N.Nodup) (hj : X.N[j]? = some y) (hy : X.env.scope.names.lookup y = some .local) (hc : X.calm = true) (cok : CompOk scope X.env.scope xs N' X.N) (hi : PI X target iter wi)
    (hg : ∀ C s H pins fp, PG (cxComp X scope (xs ++ N') C s H pins fp) target g) (ht : ∀ C s H pins fp, PTs (cxComp X scope (xs ++ N') C s H pins fp) ifs tc) (he : ∀ C s H pins fp, PE (cxComp X scope (xs ++ N') C s H pins fp) elt te)
    (hsw : swapsWith (.ListComp elt [⟨target, iter, ifs, 0⟩] scope pos) (some (.Name y py)) spos.line X.env = pure true := by rfl) (hs : ∀ x, foldedSetIterable iter X.env x = pure x := by intro _; rfl) :
    PS X (.Assign [.Name y py] (.ListComp elt [⟨target, iter, ifs, 0⟩] scope pos) spos) (tAsg (tComp xs.length wi g tc te) (gName j)) := by
  intro pins s σ H D I h
  rw [exec_Assign_Name_used _ _ _ _ hsw]
  refine wpAny_bind (wpAny_standAt (wpAny_bind ?_))
  show wpAny _ X.A (do let _ ← comprehension (.ListComp elt [⟨target, iter, ifs, 0⟩] scope pos) scope X.env _ (newList []) false (eval iter X.env) (some (assign (.Name y py) X.env))) _ _ s
  refine wpAny_bind (wpAny_mono (wpAny_comprehension_free (use := some (assign (.Name y py) X.env)) (Q := fun _ s' => SP X pins D .next s') rfl hs (clos_of I cok) cok.kind cok.own
    (comp_block hc cok hi hg ht he I h fun a C m H' s' J fC hn q => ?_)) (fun _ s' hq => wpAny_pure (wpAny_pure hq)) fun _ _ e => e)
  obtain ⟨f0, f1, f2, f3, f4, f5⟩ := fC
  refine wpAny_assign_Name (store_ok2 J hN hj (.inl hy) (v := .ref a) rfl (fun s2 J2 sb => ?_) (.inr hy))
  obtain ⟨b, sb, hb⟩ := sb
  have nb : C ≠ b := by
    rcases hb with z | z
    · rw [z]; exact f1
    · exact Ne.symm (f4 y b z)
  refine ⟨m, hn.sameBut sb nb, fun h' hs' => ⟨_, H', J2.turned (t' := s2.toks) (fun b o hb e => (hs'.2 b hb).trans e) f0 f1 f3 f4 f5, q⟩⟩
end
end L2

namespace L2
open PySem PySem.Spec PyProof.Rows
def RawF (K : PySem.W.Frag) (mg : Str → Option Value) (x : Str) (st : Stmt) (ps : List Str) (dvs : List V) : Prop :=
  ∃ (f : Addr) (oc : Value) (od : Option Addr) (dV kV doc pm : Value) (an : Option Addr) (cdv ct : Value) (osl : Array (Option Value)) (ds : List Value),
    K.lookup f = some ⟨oc, od, .func (PySem.W.fnOf x x (defArgs st) (defBody st) (defScope st) dV kV doc pm an cdv ct), osl⟩ ∧ PySem.W.codeIn K cdv x = true ∧ PySem.W.keepIn K (.ref f) = true ∧
    mg x = some (.ref f) ∧ Binds K (PySem.W.fnOf x x (defArgs st) (defBody st) (defScope st) dV kV doc pm an cdv ct) ps ds ∧ Vals dvs ds
def HasFn (P : Program) (w : World) (K : PySem.W.Frag) (mg : Str → Option Value) (base : Heap) (k : Nat) (x : Str) (ps : List Str) (sp : Sp) (dvs : List V) : Prop :=
  ∃ f fd ds, FnOk P w K mg base (CXE P w) k f fd ps sp ∧ mg x = some (.ref f) ∧ PySem.W.keepIn K (.ref f) = true ∧ Binds K fd ps ds ∧ Vals dvs ds
section
variable {P : Program} {w : World} {K : PySem.W.Frag} {mg : Str → Option Value} {base : Heap} {C : Addr} {x m qual : Str} {st : Stmt} {N ps : List Str} {dvs : List V} {k : Nat} {sp : Sp}
theorem RawF.ok (R : RawF K mg x st ps dvs) (S : FnScope N ps (defScope st)) (len : ∀ vs H Q E, sp vs H Q E → vs.length = ps.length)
    (hbody : ∀ (f : Addr) (cdv : Value) (A : Around) (outer : List Env) (s : Shared) (H : Hp) (vs : List V) (Q : VK) (E : XK), Room k (A.deeper (envOfC x (defScope st) s.heap.objs.size f cdv)) → sp vs H Q E →
      ∃ t, PSs (cxOf (CXE P w) P w K mg base N x (defScope st) f cdv A outer s H E) (defBody st) t ∧ t { nx := fun _ H' => Q .non H', rt := Q } (start N vs) H) : HasFn P w K mg base (k + 1) x ps sp dvs := by
  obtain ⟨f, oc, od, dV, kV, doc, pm, an, cdv, ct, osl, ds, lk, hcd, kp, hm, hb, hd⟩ := R
  exact ⟨f, _, ds, fn_of lk hcd S len fun A outer s H vs Q E hr hsp => hbody f cdv A outer s H vs Q E hr hsp, hm, kp, hb, hd⟩
end
section
variable {X : Cx} {C : Addr} {k : Nat} {ps : List Str} {sp : Sp} {dvs : List V} {E : St → XK} {x m : Str} {p pos apos : Pos} {e o : Expr} {es : List Expr} {ta : TE} {t : TA}
theorem pe_fn (h : HasFn X.prog X.w X.K X.mg X.base k x ps sp dvs) (hr : Room k X.A) (hg : Gl X x) (hx : PassesX (CXE X.prog X.w) X E)
    (ha : PA X (e :: es) t) (hdb : (x == ("__debug__" : Str)) = false := by decide) (he : starEach (e :: es) X.env = (false, eval e X.env) :: starEach es X.env := by rfl) (hpl : (backTo pos (starEach es X.env)).any (·.1) = false := by rfl) :
    PE X (.Call (.Name x p) (e :: es) [] pos) (tCallX sp dvs E t) := by
  obtain ⟨f, fd, ds, F, hm, hk, hb, hd⟩ := h
  exact pe_callX F hr hg hm hk hb hd hx ha hdb he hpl
theorem pass_none {P : Program} {w : World} : PassesX (CXE P w) X (fun _ => E0) := fun _ _ _ _ _ _ _ hx => by
  obtain ⟨_, _, _, _, _, _, _, _, _, _, q⟩ := hx
  exact q.elim
end
section
variable {X : Cx} {K : PySem.W.Frag}
theorem ix_listK (h : X.K = K) : IxR X (rIxL K) := by subst h; exact ix_list
theorem ix_tupK (h : X.K = K) : IxR X (rIxT K) := by subst h; exact ix_tup
theorem call_lenK (h : X.K = K) : CallR X (.builtin "len") (fun xs H Q => ∃ p ys, xs = [.ref p] ∧ (SqL K H p ys ∨ SqT K H p ys) ∧ Q (.int ys.length) H) := by subst h; exact call_len_seq
end
def bodyOf (s : Stmt) : List Stmt := match s with
  | .If _ b _ _ => b
  | .For _ _ b _ _ => b
  | .While _ b _ _ => b
  | _ => []
theorem iteD {c A B : Prop} [Decidable c] (h1 : c → A) (h2 : ¬ c → B) : if decide c = true then A else B := by
  by_cases h : c
  · rw [decide_eq_true h]; exact iteT (h1 h)
  · rw [decide_eq_false h]; exact iteF (h2 h)
theorem iteI {i j : Int} {A B : Prop} (h1 : i = j → A) (h2 : ¬ i = j → B) : if decide (V.int i = V.int j) = true then A else B :=
  iteD (fun z => h1 (by injection z)) fun z => h2 fun q => z (by rw [q])
theorem one_line : 1 ≤ sizeLine := by rw [sizeLine_eq]; decide
theorem small_line {n : Nat} (h : n ≤ 1000) : n ≤ sizeLine := by rw [sizeLine_eq]; omega
theorem same_upd {H : Hp} {q : Addr} {u : HO} (h : H q = none) : Same H (upd H q u) := fun b o z => by rw [upd_ne (ne_of_none z h)]; exact z
theorem kit_self (K : PySem.W.Frag) (v : Value) : PySem.W.kitOne K v v = some true := by
  unfold PySem.W.kitOne
  rw [if_pos (by simp)]
theorem kit_ib (K : PySem.W.Frag) : PySem.W.kitOne K (.type "int") (.type "bool") = some false := by
  unfold PySem.W.kitOne PySem.W.kitCls
  rw [if_neg (by decide)]
  have h1 : PySem.W.kitMeta "bool" = true := by decide +kernel
  simp only [h1, if_true]
  show Option.map (fun x => x.contains (Value.type "bool")) (fastBuiltinMro "int") = some false
  decide +kernel
theorem atI_getD {ns : List Int} {n : Int} (h0 : 0 ≤ n) (h1 : n < ns.length) : atI (ns.map V.int) n = some (.int (ns.getD n.toNat 0)) := by
  have e : n = ((n.toNat : Nat) : Int) := by omega
  have hl : n.toNat < ns.length := by omega
  rw [e]
  refine atI_nat ?_
  rw [List.getElem?_map, List.getElem?_eq_getElem hl, Int.toNat_natCast, List.getD_eq_getElem?_getD, List.getElem?_eq_getElem hl]
  rfl
theorem ixN_map {ns : List Int} {n : Int} (h0 : 0 ≤ n) (h1 : n < ns.length) : ixN (ns.map V.int).length n = some n.toNat := by
  unfold ixN
  rw [List.length_map, if_pos h0, if_pos h1]
theorem getD_out {ns : List Int} {k : Nat} (h : ns.length ≤ k) : ns.getD k 0 = 0 := by
  rw [List.getD_eq_getElem?_getD, List.getElem?_eq_none h]
  rfl
theorem cut_ints (ns : List Int) (lo hi : Option Int) : ∃ ms : List Int, cutV (ns.map V.int) lo hi = ms.map V.int ∧ ms.length ≤ ns.length := by
  unfold cutV
  refine ⟨(ns.drop (HT.sIx (ns.map V.int).length 0 lo)).take (HT.sIx (ns.map V.int).length (ns.map V.int).length hi - HT.sIx (ns.map V.int).length 0 lo), ?_, ?_⟩
  · rw [List.map_take, List.map_drop]
  · rw [List.length_take, List.length_drop]; omega
end L2

namespace L2
open PySem PySem.Spec PyProof.Rows
section
variable {tc : TT} {te : TE} {σ : St} {H1 : Hp} {acc : Addr} {QH : Hp → Prop}
theorem comp_range {lo : Int} {n k : Nat} (hacc : H1 acc = none) (f : Nat → V) (p : Nat → Bool) (hn : n < sizeLine)
    (hc : ∀ (i : Nat) (ys : List V), i < n → ∀ R : Bool → Hp → Prop, R (p i) (upd H1 acc (.lst ys)) → tc (some (.int (lo + i)) :: σ) (upd H1 acc (.lst ys)) R)
    (he : ∀ (i : Nat) (ys : List V), i < n → p i = true → ∀ R : VK, R (f i) (upd H1 acc (.lst ys)) → te (some (.int (lo + i)) :: σ) (upd H1 acc (.lst ys)) R)
    (q : QH (upd H1 acc (.lst (((List.range n).filter p).map f)))) (hk : k = 1 := by rfl) : ∃ (W : Nat → List V → Hp → Prop) (n' : Nat), W 0 [] (upd H1 acc (.lst [])) ∧
  ∀ i ys H2, W i ys H2 → H2 acc = some (.lst ys) ∧ ys.length < sizeLine ∧ ((i = n' ∧ (Itr lo n).stop i H2 ∧ QH H2) ∨ (i < n' ∧ (Itr lo n).go i H2 ∧ ∀ x H3, (Itr lo n).yld i H2 x H3 → ∀ τ : St, τ.length = k → (gName 0) x (τ ++ σ) H3 fun τ2 H4 =>
    (∃ τ' : St, τ'.length = k ∧ τ2 = τ' ++ σ) ∧ tc τ2 H4 fun b H5 => if b = true then te τ2 H5 fun v H6 => H6 acc = some (.lst ys) ∧ W (i + 1) (ys ++ [v]) (upd H6 acc (.lst (ys ++ [v]))) else W (i + 1) ys H5)) := by
  subst hk
  refine ⟨fun i ys H2 => i ≤ n ∧ ys = ((List.range i).filter p).map f ∧ H2 = upd H1 acc (.lst ys), n, ⟨Nat.zero_le _, rfl, rfl⟩, ?_⟩
  rintro i ys H2 ⟨hi, hys, rfl⟩
  have hl : ys.length < sizeLine := by
    rw [hys, List.length_map]
    have := List.length_filter_le p (List.range i)
    rw [List.length_range] at this
    omega
  refine ⟨upd_same, hl, ?_⟩
  by_cases hlt : i < n
  · refine .inr ⟨hlt, hlt, ?_⟩
    rintro x H3 ⟨rfl, rfl⟩ τ hτ
    obtain ⟨t, rfl⟩ : ∃ t, τ = [t] := by
      match τ, hτ with
      | [t], _ => exact ⟨t, rfl⟩
    refine ⟨⟨[some (.int (lo + i))], rfl, rfl⟩, ?_⟩
    show tc (some (.int (lo + i)) :: σ) _ _
    refine hc i ys hlt _ ?_
    have rs : List.range (i + 1) = List.range i ++ [i] := List.range_succ
    cases hp : p i with
    | true =>
      refine iteT (he i ys hlt hp _ ⟨upd_same, hlt, ?_, upd_upd⟩)
      rw [rs, List.filter_append, List.map_append, hys]
      simp [List.filter, hp]
    | false =>
      refine iteF ⟨hlt, ?_, rfl⟩
      rw [rs, List.filter_append, List.map_append, hys]
      simp [List.filter, hp]
  · have e : i = n := by omega
    subst e
    refine .inl ⟨rfl, Nat.le_refl _, ?_⟩
    have := q
    rw [← hys] at this
    exact this
end
section
variable {X : Cx} {pins : List (Addr × Obj)} {σ : St} {H : Hp} {s : Shared}
end
end L2

namespace L2
open PySem PySem.Spec PyProof.Rows PyProof.V PySem.SeqAt
mutual
theorem noMix_self : ∀ d : PyData, d.canLay0 = true → noMix d d = true
  | .none, _ => by simp [noMix]
  | .bool _, _ => by simp [noMix]
  | .int _, _ => by simp [noMix]
  | .str _, _ => by simp [noMix]
  | .list xs, h => by
    rw [noMix]
    exact noMixAll_self xs (by simpa [PyData.canLay0] using h)
  | .tuple xs, h => by
    rw [noMix]
    exact noMixAll_self xs (by simpa [PyData.canLay0] using h)
  | .dict _, h => by simp [PyData.canLay0] at h
theorem noMixAll_self : ∀ ds : List PyData, PyData.canLayAll0 ds = true → noMixAll ds ds = true
  | [], _ => by simp [noMixAll]
  | d :: ds, h => by
    simp only [PyData.canLayAll0, Bool.and_eq_true] at h
    rw [noMixAll, noMix_self d h.1, noMixAll_self ds h.2]
    rfl
end
def Tid (n : Nat) (d : PyData) : Prop := d.canLay0 = true ∧ d.depth ≤ n
theorem Tid.mono {n m : Nat} {d : PyData} (h : Tid n d) (hm : n ≤ m) : Tid m d := ⟨h.1, Nat.le_trans h.2 hm⟩
theorem Tid.shaped {n : Nat} {d : PyData} (h : Tid n d) (hn : n ≤ 64) : shaped d = true := by
  show (d.canLay0 && decide (d.depth ≤ 64)) = true
  rw [h.1, decide_eq_true (Nat.le_trans h.2 hn)]
  rfl
theorem Tid.int (i : Int) : Tid 1 (.int i) := ⟨by simp [PyData.canLay0], by simp [PyData.depth]⟩
theorem Tid.str {x : Str} (h : PyData.canLay0 (.str x) = true) : Tid 1 (.str x) := ⟨h, by simp [PyData.depth]⟩
theorem Tid.all {n : Nat} : ∀ {ds : List PyData}, (∀ d ∈ ds, Tid n d) → PyData.canLayAll0 ds = true ∧ PyData.depthAll ds ≤ n
  | [], _ => ⟨by simp [PyData.canLayAll0], by simp [PyData.depthAll]⟩
  | d :: ds, h => by
    have h1 := h d List.mem_cons_self
    have h2 := Tid.all (ds := ds) fun x hx => h x (List.mem_cons_of_mem _ hx)
    refine ⟨by simp [PyData.canLayAll0, h1.1, h2.1], ?_⟩
    have := h1.2
    have := h2.2
    simp only [PyData.depthAll]
    omega
theorem Tid.list {n : Nat} {ds : List PyData} (h : ∀ d ∈ ds, Tid n d) : Tid (n + 1) (.list ds) := by
  have q := Tid.all h
  refine ⟨by simpa [PyData.canLay0] using q.1, ?_⟩
  have := q.2
  simp only [PyData.depth]
  omega
theorem Tid.tuple {n : Nat} {ds : List PyData} (h : ∀ d ∈ ds, Tid n d) : Tid (n + 1) (.tuple ds) := by
  have q := Tid.all h
  refine ⟨by simpa [PyData.canLay0] using q.1, ?_⟩
  have := q.2
  simp only [PyData.depth]
  omega
theorem Tid.ints (ns : List Int) : Tid 2 (.list (ns.map PyData.int)) := Tid.list fun d hd => by
  rw [List.mem_map] at hd
  obtain ⟨i, _, rfl⟩ := hd
  exact Tid.int i
section
variable {K : PySem.W.Frag} {H : Hp} {x y : V} {d : PyData} {Q : VK} {n : Nat}
theorem rNeD_self (h1 : DatV K H x d) (h2 : DatV K H y d) (t : Tid n d) (q : Q (.bl false) H) (hn : n ≤ 64 := by decide) : rNeD K x y H Q :=
  ⟨d, d, h1, h2, t.shaped hn, t.shaped hn, noMix_self d t.1, by rw [PySem.Spec.same_self]; exact q⟩
end
end L2

namespace L2
open PySem PySem.Spec PyProof.Rows
section
variable {X : Cx}
end
def notStar : Expr → Bool
  | .Starred _ _ => false
  | _ => true
theorem star_cons {e : Expr} {es : List Expr} {env : Env} (h : notStar e = true) : starEach (e :: es) env = (false, eval e env) :: starEach es env := by
  cases e <;> first | rfl | cases h
theorem pa_cn {X : Cx} {e : Expr} {es : List Expr} {te : TE} {t : TA} (ha : PE X e te) (hr : PA X es t) (h : notStar e = true) : PA X (e :: es) (tCons te t) := pa_cons ha hr (star_cons h)
theorem exW {p : (Nat → Nat → St → Hp → Prop) → Prop} (w : Nat → Nat → St → Hp → Prop) (h : p w) : ∃ w, p w := ⟨w, h⟩
theorem exN {p : (St → Hp → Prop) → Prop} (w : St → Hp → Prop) (h : p w) : ∃ w, p w := ⟨w, h⟩
theorem exD {p : PyData → Prop} (w : PyData) (h : p w) : ∃ w, p w := ⟨w, h⟩
theorem exW2 {p : (Nat → St → Hp → Prop) → Prop} (w : Nat → St → Hp → Prop) (h : p w) : ∃ w, p w := ⟨w, h⟩
theorem up_old {H : Hp} {q b : Addr} {u o : HO} (h : H q = none) (e : H b = some o) : upd H q u b = some o := same_upd h b o e
theorem up_ne {H : Hp} {q b : Addr} {u o : HO} (h : b ≠ q) (e : H b = some o) : upd H q u b = some o := by rw [upd_ne h]; exact e
theorem lk_next {f g : Str} {v : V} {r : List (Str × V)} {o : Option V} (h : ¬ g = f) (e : r.lookup g = o) : ((f, v) :: r).lookup g = o := by
  have hb : (g == f) = false := beq_eq_false_iff_ne.mpr h
  simp only [List.lookup, hb]
  exact e
theorem sm_upd {H H' : Hp} {q : Addr} {u : HO} (h : H' q = none) (e : Same H H') : Same H (upd H' q u) := e.trans (same_upd h)
theorem lk_eq {f : Str} {v : V} {r : List (Str × V)} : ((f, v) :: r).lookup f = some v := by
  have hb : (f == f) = true := beq_iff_eq.mpr rfl
  simp only [List.lookup, hb]
theorem Room.u1 {k : Nat} {A : Around} (r : Room k A) : A.units + 1 < cLine := by have := r.un; omega
section
variable {X : Cx}
end
section
variable {X : Cx}
end
section
variable {X : Cx}
end
end L2

namespace L2
open PySem PySem.Spec PyProof.Rows
end L2

namespace L2
open PySem PySem.Spec PyProof.Rows
section
variable {P : Program} {w : World} {K : PySem.W.Frag} {mg : Str → Option Value} {base : Heap} {C : Addr} {x m qual : Str} {st : Stmt} {N ps : List Str} {dvs : List V} {k : Nat} {sp : Sp}
end
section
variable {X : Cx} {C : Addr} {k : Nat} {ps : List Str} {sp : Sp} {dvs : List V} {E : St → XK} {x m : Str} {p pos apos : Pos} {e o : Expr} {es : List Expr} {ta : TE} {t : TA}
end
section
variable {X : Cx} {P : Program} {w : World} {K : PySem.W.Frag} {mg : Str → Option Value} {base : Heap} {m : Str} {dvs : List V} {k : Nat} {E : St → XK} {ta : TE} {t : TA} {o e : Expr} {es : List Expr} {pos apos : Pos}
end
section
variable {X : Cx} {a : Addr} {x : Str} {i : Expr} {ty : TE} {p pos : Pos}
end
section
variable {P : Program} {w : World} {K : PySem.W.Frag} {mg : Str → Option Value} {base : Heap} {C f : Addr} {m : Str} {ps : List Str} {dvs : List V} {ds : List Value} {k : Nat} {sp : Sp} {fd : FuncData}
end
section
variable {X : Cx} {x : Str} {pos : Pos}
end
end L2

namespace L2
open PySem PySem.Spec PyProof.Rows
section
variable {X : Cx} {pins : List (Addr × Obj)} {σ : St} {H : Hp} {s : Shared}
end
end L2

namespace L2
open PySem PySem.Spec PyProof.Rows
theorem ints_vals : ∀ {vs : List Value} {ns : List Int}, IntsAre vs ns → Vals (ns.map V.int) vs
  | _, _, .nil => .nil
  | _, _, .cons n t r => .cons ⟨t, rfl⟩ (ints_vals r)
section
variable {X : Cx}
variable {pins : List (Addr × Obj)} {σ : St} {H : Hp} {s : Shared} {a : Addr} {kvs : List (Key × V)} {k : Key} {A : Around} {E : Value → Shared → Prop} {u : Value}
variable {o e' f : Expr} {apos cpos : Pos} {td ty tx : TE}
end
end L2

namespace L2
open PySem PyProof.Rows
section
variable {x y : Int} {k : Nat}
end
end L2

namespace L2
open PySem PyProof.Rows
end L2

namespace L2
open PySem PySem.Spec PyProof.Rows
section
variable {X : Cx} {pins : List (Addr × Obj)} {σ : St} {H : Hp} {s : Shared}
end
end L2

namespace L2
end L2

namespace PySem
open Sem (wp)
open AutoSeq1 (wpAny_loadPart')
section
variable {prog : Program} {w : World} {A : Around} {E : Value → Shared → Prop} {s : Shared}
theorem extend_rangeG {R : Result → Shared → Prop} {r : Addr} {a b c : Int} {t u v : Tok} {n : Nat} {oI : Obj} {St : Nat → Heap → Prop} (hr : IsRange s.heap r a b c t u v)
    (hit : ∀ (E : Value → Shared → Prop) (Q : Value → Shared → Prop), Q (.ref s.heap.objs.size) { s with heap := s.heap.push oI } → wpAny (model prog w) A.in1 (pyIter (.ref r)) Q E s)
    (W : Walks prog w A.in1 s.heap.objs.size [s.heap.objs.size] [s.heap.objs.size] n (fun i v => ∃ t, v = .int (a + i * c) t) St) (st : St 0 (s.heap.push oI))
    (hn : Builtin.Range.rangeSize a b c = n) (hlen : n ≤ 2 ^ 24) (S : Addr) (res : Value) (c₀ : Nat) (hS : s.heap.get? S = some { cls := .type "list", data := .seq #[] c₀ })
    (hR : ∀ h' tk acc' c', (∀ b o, b ≠ S → s.heap.get? b = some o → h'.get? b = some o) → h'.get? S = some { cls := .type "list", dict := none, data := .seq acc' c', slots := #[] } →
      ItemsOf (fun i v => ∃ t, v = .int (a + i * c) t) acc' n → R (.ok (.ret res)) { s with heap := h', toks := tk }) :
    wpAny (model prog w) A.in1 (Builtin.List.listExtendWith (.ref S) (.ref r) res)
      (fun fin s' => match fin with | .done f => R (.ok f) s' | .again c' => c'.quiet = true ∧ codeAny (model prog w) A c' R s') (fun e s' => R (.error e) s') s := by
  have hSr : S ≠ r := fun e => by rw [e, hr] at hS; simp at hS
  have hSlt : S < s.heap.objs.size := Heap.lt_size hS
  have hSI : S ≠ s.heap.objs.size := Nat.ne_of_lt hSlt
  have hSf : S ∉ [s.heap.objs.size] := fun hm => hSI (List.mem_singleton.mp hm)
  have key : ∀ (h : Heap) (c₁ tk : Nat), St 0 h → (∀ b o, b ≠ S → s.heap.get? b = some o → h.get? b = some o) →
      h.get? S = some { cls := .type "list", data := .seq #[] c₁ } → codeAny (model prog w) A (.builtin "list.extend.loop" ⟨[.ref S, .ref s.heap.objs.size, res], []⟩) R { s with heap := h, toks := tk } := by
    intro h c₁ tk hst hk hS₁
    refine codeAny_extend_loopS W.toS (by rw [sizeLine_eq]; omega) S hSf res n 0 _ #[] c₁ rfl (Nat.zero_le _) hst hS₁ (ItemsOf.nil _) fun s' acc' c' hm hS' hacc => ?_
    rw [Moved.eq_with hm]
    refine hR s'.heap s'.toks acc' c' (fun b o hb e => hm.heap b o (fun hmem => ?_) (hk b o hb e)) hS' hacc
    rcases List.mem_cons.mp hmem with e' | hmem
    · exact hb e'
    · exact absurd (Heap.lt_size e) (by rw [List.mem_singleton.mp hmem]; exact Nat.lt_irrefl _)
  unfold Builtin.List.listExtendWith
  refine wpAny_bind (wpAny_typeOf (T := "range") ⟨_, hr, rfl⟩ ?_)
  have h1 : Builtin.List.listSameRef (.ref S) (.ref r) = false := by simp [Builtin.List.listSameRef, hSr]
  have h2 : (Value.type "range" == Value.type "list") = false := by decide
  have h3 : (Value.type "range" == Value.type "tuple") = false := by decide
  simp only [h1, h2, h3, Bool.or_false, Bool.false_eq_true, if_false]
  refine wpAny_bind (hit _ _ ?_)
  refine wpAny_bind (wpAny_holding (wpAny_hint_range (n := n) (Heap.get?_push_of_some _ hr) hn hlen ?_))
  have hS₁ := Heap.get?_push_of_some oI hS
  refine wpAny_ite_split (fun _ => ?_) (fun _ => wpAny_pure ⟨plainId_quiet F.plain_extend_loop _, key _ c₀ _ st (fun b o _ e => Heap.get?_push_of_some _ e) hS₁⟩)
  refine wpAny_bind (wpAny_rule ?_)
  refine wpAny_bind ?_
  show wpAny _ _ (updateSeq S (·.push .none) >>= fun _ => updateSeq S (·.pop)) _ _ _
  refine wpAny_bind (wpAny_updateSeq hS₁ rfl ?_)
  have hS₂ := Heap.get?_update_self (Obj.mapSeq (·.push Value.none)) hS₁ rfl
  refine wpAny_updateSeq (hz := by seq_fits) hS₂ rfl ?_
  have hS₃ := Heap.get?_update_self (Obj.mapSeq (·.pop)) hS₂ rfl
  refine wpAny_pure ⟨plainId_quiet F.plain_extend_loop _, key _ _ _ ?_ (fun b o hb e => ?_) hS₃⟩
  · refine W.frame 0 _ _ st fun b hb o e => ?_
    have hbS : b ≠ S := fun h => hSf (h ▸ hb)
    exact (Heap.get?_update_other _ _ (Ne.symm hbS)).trans ((Heap.get?_update_other _ _ (Ne.symm hbS)).trans e)
  · exact (Heap.get?_update_other _ _ (Ne.symm hb)).trans ((Heap.get?_update_other _ _ (Ne.symm hb)).trans (Heap.get?_push_of_some _ e))
theorem list_init_rangeG {R : Result → Shared → Prop} {r : Addr} {a b c : Int} {t u v : Tok} {n : Nat} (hr : IsRange s.heap r a b c t u v)
    (src : ∀ s' : Shared, IsRange s'.heap r a b c t u v → ∃ (oI : Obj) (St : Nat → Heap → Prop), (∀ (E : Value → Shared → Prop) (Q : Value → Shared → Prop), Q (.ref s'.heap.objs.size) { s' with heap := s'.heap.push oI } → wpAny (model prog w) A.in1 (pyIter (.ref r)) Q E s') ∧
      Walks prog w A.in1 s'.heap.objs.size [s'.heap.objs.size] [s'.heap.objs.size] n (fun i v => ∃ t, v = .int (a + i * c) t) St ∧ St 0 (s'.heap.push oI))
    (hn : Builtin.Range.rangeSize a b c = n) (hlen : n ≤ 2 ^ 24) (S : Addr) (hS : s.heap.get? S = some { cls := .type "list", data := .seq #[] })
    (hR : ∀ h' tk acc' c', (∀ b o, b ≠ S → s.heap.get? b = some o → h'.get? b = some o) → h'.get? S = some { cls := .type "list", dict := none, data := .seq acc' c', slots := #[] } →
      ItemsOf (fun i v => ∃ t, v = .int (a + i * c) t) acc' n → R (.ok (.ret .none)) { s with heap := h', toks := tk }) :
    wpAny (model prog w) A.in1 (Builtin.«list.__init__» ⟨[.ref S, .ref r], []⟩)
      (fun fin s' => match fin with | .done f => R (.ok f) s' | .again c' => c'.quiet = true ∧ codeAny (model prog w) A c' R s') (fun e s' => R (.error e) s') s := by
  have hSr : S ≠ r := fun e => by rw [e, hr] at hS; simp at hS
  show wpAny _ _ (do let old ← Builtin.List.listItems (.ref S); Builtin.List.listUpdate (.ref S) (fun _ => #[]); letGo old.toList.reverse; Builtin.List.listExtendWith (.ref S) (.ref r) .none) _ _ s
  refine wpAny_bind ?_
  unfold Builtin.List.listItems
  refine wpAny_bind (wpAny_seqItems hS rfl (wpAny_pure ?_))
  show wpAny _ _ (updateSeq S (fun _ => #[]) >>= fun _ => letGo (#[] : Array Value).toList.reverse >>= fun _ => Builtin.List.listExtendWith (.ref S) (.ref r) .none) _ _ s
  refine wpAny_bind (wpAny_updateSeq hS rfl ?_)
  have hS₂ := Heap.get?_update_self (Obj.mapSeq (fun _ => (#[] : Array Value))) hS rfl
  have oth : ∀ b o, b ≠ S → s.heap.get? b = some o → (s.heap.update S (Obj.mapSeq (fun _ => (#[] : Array Value)))).get? b = some o :=
    fun b o hb e => (Heap.get?_update_other _ _ (Ne.symm hb)).trans e
  refine wpAny_bind (wpAny_letGo ?_)
  obtain ⟨oI, St, hit, W, st⟩ := src { s with heap := s.heap.update S (Obj.mapSeq (fun _ => (#[] : Array Value))) } (oth r _ (Ne.symm hSr) hr)
  refine extend_rangeG (s := { s with heap := s.heap.update S (Obj.mapSeq (fun _ => (#[] : Array Value))) }) (oth r _ (Ne.symm hSr) hr) hit W st hn hlen S .none _ hS₂ fun h' tk acc' c' hk hS' hacc => ?_
  exact hR h' tk acc' c' (fun b o hb e => hk b o hb (oth b o hb e)) hS' hacc
theorem call_list_rangeW {Q : Value → Shared → Prop} {r : Addr} {a b c : Int} {t u v : Tok} {n : Nat} (hh : A.handled = none) (hr : IsRange s.heap r a b c t u v)
    (hn : Builtin.Range.rangeSize a b c = n) (hlen : n ≤ 2 ^ 24)
    (hQ : ∀ h' tk acc' c', (∀ b o, s.heap.get? b = some o → h'.get? b = some o) →
      h'.get? s.heap.objs.size = some { cls := .type "list", dict := none, data := .seq acc' c', slots := #[] } → ItemsOf (fun i v => ∃ t, v = .int (a + i * c) t) acc' n → Q (.ref s.heap.objs.size) { s with heap := h', toks := tk }) :
    wpAny (model prog w) A (call (.type "list") [.ref r]) Q E s := by
  cases hs : Builtin.Range.small a b c with
  | true => exact call_list_range hh hr hs hn hlen hQ
  | false =>
    refine callType_codes (Q₁ := fun obj s₁ => obj = .ref s.heap.objs.size ∧ s₁ = { s with heap := s.heap.push { cls := .type "list", data := .seq #[] } }) F.called_list (F.typeCall_list_1 _) F.entry_list_init
      (code_list_new _ ⟨rfl, rfl⟩) fun obj s₁ h₁ => ?_
    obtain ⟨rfl, rfl⟩ := h₁
    have hS : (s.heap.push { cls := .type "list", data := .seq #[] }).get? s.heap.objs.size = some { cls := .type "list", data := .seq #[] } := Heap.get?_push_size _ rfl
    refine ⟨⟨_, hS, rfl⟩, F.args_list_init_2 _ _, list_init_rangeG (A := A.in1) (Heap.get?_push_of_some _ hr) (fun s' hr' => ⟨_, _, fun E' Q' q => wpAny_pyIter_longrange hr' hs q, Walks.longrange (A := A.in1.in1) hh _ a c n, ?_⟩) hn hlen _ hS fun h' tk acc' c' hk hS' hacc => ?_⟩
    · rw [hn]
      simpa using Heap.get?_push_size _ rfl
    · exact ⟨rfl, hQ h' tk acc' c' (fun b o e => hk b o (Nat.ne_of_lt (Heap.lt_size e)) (Heap.get?_push_of_some _ e)) hS' hacc⟩
end
end PySem

namespace L2
open PySem PySem.Spec PyProof.Rows
section
variable {X : Cx} {pins : List (Addr × Obj)} {σ : St} {H : Hp} {s : Shared}
def runL (lo : Int) (n : Nat) : List Int := (List.range n).map fun i : Nat => lo + (i : Int)
theorem vals_of_get : ∀ {xs : List V} {us : List Value}, xs.length = us.length → (∀ (i : Nat) (x : V) (u : Value), xs[i]? = some x → us[i]? = some u → RelV x u) → Vals xs us
  | [], [], _, _ => .nil
  | [], _ :: _, h, _ => by cases h
  | _ :: _, [], h, _ => by cases h
  | x :: xs, u :: us, h, k => .cons (k 0 x u rfl rfl) (vals_of_get (Nat.succ.inj h) fun i y v e1 e2 => k (i + 1) y v (by simpa using e1) (by simpa using e2))
theorem call_list_rng (hc : X.calm = true) : CallR X (.type "list") (fun xs H Q => ∃ (r : Addr) (lo hi : Int), xs = [.ref r] ∧ H r = some (.rng lo hi) ∧ hi - lo ≤ 1000000 ∧ ∀ l, H l = none → Q (.ref l) (upd H l (.lst ((runL lo (hi - lo).toNat).map V.int)))) := by
  intro pins s σ H xs us Q I r h
  obtain ⟨q, lo, hi, rfl, hq, hb, k⟩ := h
  obtain ⟨u, rfl, ru⟩ := vals1 r
  cases ru
  obtain ⟨t, u, v, e⟩ := I.hok q _ hq
  refine call_list_rangeW (n := (hi - lo).toNat) (I.ok.hd hc) e ?_ (by omega) fun h' tk acc c kp hS hacc => ?_
  · rw [rangeSize_one]; split <;> omega
  · have I3 : Inv X pins σ (upd H s.heap.objs.size (.lst ((runL lo (hi - lo).toNat).map V.int))) { s with heap := h', toks := tk } := I.laid (t' := tk) kp (Nat.le_refl _)
      (show ObjOk X.prog X.w _ _ _ (.lst _) from ⟨by rw [List.length_map, runL, List.length_map, List.length_range, sizeLine_eq]; omega, acc.toList, c, vals_of_get (by rw [List.length_map, runL, List.length_map, List.length_range, Array.length_toList, hacc.1]) (fun i x u e1 e2 => ?_), by rw [Array.toArray_toList]; exact hS⟩)
    · exact ⟨.ref _, _, I3, rfl, k _ (I.hok.fresh (Nat.le_refl _))⟩
    · rw [Array.getElem?_toList] at e2
      obtain ⟨t', rfl⟩ := hacc.2 i u e2
      unfold runL at e1
      rw [List.map_map, List.getElem?_map] at e1
      have hi' : i < (hi - lo).toNat := by rw [← hacc.1]; exact (Array.getElem?_eq_some_iff.mp e2).1
      rw [List.getElem?_range hi'] at e1
      cases e1
      exact ⟨t', by rw [Int.mul_one]⟩
end
end L2

namespace PySem
namespace F
end F
section
variable {prog : Program} {w : World} {A : Around} {E : Value → Shared → Prop} {s : Shared}
open PyProof.Rows
end
namespace F
end F
section
open Sem (wp)
variable {prog : Program} {w : World} {A : Around} {s : Shared} {R : Result → Shared → Prop}
variable {I : Addr} {fp wr : List Addr} {G : Array GenState → Array GenState → Prop} {n : Nat} {P : Nat → Value → Prop} {St : Nat → Shared → Prop}
end
section
variable {prog : Program} {w : World} {A : Around} {E : Value → Shared → Prop} {s : Shared}
variable {I : Addr} {fp wr : List Addr} {G : Array GenState → Array GenState → Prop} {n : Nat} {P : Nat → Value → Prop} {St : Nat → Shared → Prop}
end
end PySem

namespace L2
open PySem PySem.Spec PyProof.Rows
section
variable {X : Cx} {tg l : Expr} {tl : TE} {p pos : Pos}
end
end L2

namespace L2
open PySem PySem.Spec PyProof.Rows
end L2

namespace L2
open PySem PySem.Spec PyProof.Rows
section
variable {X : Cx} {tg : Expr}
end
end L2

namespace L2
open PySem PySem.Spec PyProof.Rows
section
variable {X : Cx} {pins : List (Addr × Obj)} {σ : St} {H : Hp} {s : Shared} {a : Addr}
end
end L2

namespace L2
open PySem PySem.Spec PyProof.Rows
section
variable {X : Cx}
end
end L2

namespace L2
open PySem PySem.Spec PyProof.Rows
section
variable {X : Cx} {tg : Expr}
end
end L2


namespace L2
open PySem PySem.Spec PyProof.Rows
section
variable {X : Cx} {pins : List (Addr × Obj)} {σ : St} {H : Hp} {s : Shared}
end
section
variable {X : Cx} {elts : List Expr} {kk : Nat} {tpos p pos : Pos} {e1 e2 : Expr} {t1 t2 : TE}
end
end L2


namespace L2
open PySem PySem.Spec PyProof.Rows
theorem strs_vals : ∀ {vs : List Value} {ns : List Str}, StrsAre vs ns → Vals (ns.map V.str) vs
  | _, _, .nil => .nil
  | _, _, .cons n t r => .cons ⟨t, rfl⟩ (strs_vals r)
section
variable {X : Cx}
end
section
variable {X : Cx} {k : Nat} {C : Addr} {ps : List Str} {sp : Sp} {dvs : List V} {E : St → XK} {x : Str} {p pos : Pos}
end
end L2

namespace L2
open PySem PySem.Spec PyProof.Rows
section
variable {prog : Program} {w : World} {A : Around} {E : Value → Shared → Prop} {s : Shared}
end
section
variable {X : Cx}
end
end L2

namespace L2
open PySem PySem.Spec PyProof.Rows
section
variable {X : Cx}
end
end L2

namespace L2
open PySem PySem.Spec PyProof.Rows
section
variable {M : Model} {A : Around} {E : Value → Shared → Prop} {h : Heap} {g : Array GenState} {d : Drawn} {t : Nat} {os : OsState}
variable {nm q : Str} {C N : Addr} {bs bm bmB : List Value} {hdct : Bool} {sn : List Str} {sub : List Value} {ab : Bool} {col : Option Bool} {dd : Option Addr} {k0 k1 k2 k3 k5 : Option Value} {B newId initId : String}
end
section
variable {prog : Program} {w : World} {A : Around} {E : Value → Shared → Prop} {h : Heap} {g : Array GenState} {d : Drawn} {t : Nat} {os : OsState}
variable {nm q : Str} {C N : Addr} {bs bm bmB : List Value} {hdct : Bool} {sn : List Str} {sub : List Value} {ab : Bool} {col : Option Bool} {dd : Option Addr} {k0 k1 k2 k3 k5 : Option Value} {B newId initId : String}
end
section
variable {X : Cx} {E : St → XK} {x : Str} {C f : Addr} {e₀ : Expr} {es : List Expr} {t : TA} {np cpos pos : Pos} {k : Nat} {fd : FuncData} {ps : List Str} {sp : Sp} {dvs : List V} {ds : List Value}
end
end L2

namespace L2
open PySem PySem.Spec PyProof.Rows
open Builtin Builtin.ObjectAttr
section
variable {prog : Program} {w : World} {A : Around} {E : Value → Shared → Prop} {h : Heap} {g : Array GenState} {d : Drawn} {t : Nat} {os : OsState}
variable {nm q : Str} {C N x : Addr} {bs bm bmB : List Value} {sn : List Str} {sub : List Value} {ab : Bool} {col : Option Bool} {dd : Option Addr} {k0 k1 k2 k3 k5 : Option Value} {B newId sa owner : String} {mA : Str → Option Value} {name : Str} {v : Value} {o : Obj}
end
section
variable {X : Cx} {pins : List (Addr × Obj)} {σ : St} {H : Hp} {s : Shared} {a d C : Addr} {f : Str} {A : Around} {E : Value → Shared → Prop}
end
section
variable {X : Cx} {o value : Expr} {f : Str} {pos pos' : Pos} {ta tv : TE}
end
end L2

namespace L2
open PySem PySem.Spec PyProof.Rows
section
variable {prog : Program} {w : World} {A : Around} {E : Value → Shared → Prop} {h : Heap} {g : Array GenState} {d : Drawn} {t : Nat} {os : OsState} {a dx : Addr} {o : Obj} {vs : Array Value} {v : Value} {name : Str} {mA : Str → Option Value}
  {nm q : Str} {C N : Addr} {bs bm bmB : List Value} {sn : List Str} {sub : List Value} {ab : Bool} {col : Option Bool} {dd : Option Addr} {k0 k1 k2 k3 k5 : Option Value} {B newId : String}
end
section
variable {X : Cx} {e : Expr} {f : Str} {pos : Pos} {ta : TE}
end
end L2

namespace L2
open PySem PySem.Spec PyProof.Rows
section
variable {A : Around} {E : Value → Shared → Prop} {h : Heap} {g : Array GenState} {d : Drawn} {t : Nat} {os : OsState}
variable {nm q : Str} {C N : Addr} {bs bm bmB : List Value} {hdct : Bool} {sn : List Str} {sub : List Value} {ab : Bool} {col : Option Bool} {dd : Option Addr} {k0 k1 k2 k3 k5 : Option Value} {B newId initId : String}
end
section
variable {X : Cx}
variable {C : Addr} {x : Str} {p pos apos : Pos} {e : Expr} {es : List Expr} {t : TA}
end
end L2

namespace L2
open PySem PySem.Spec PyProof.Rows
section
variable {K : PySem.W.Frag} {C f : Addr} {n : Str}
end
section
variable {P : Program} {w : World} {K : PySem.W.Frag} {mg : Str → Option Value} {base : Heap} {C : Addr} {qual : Str} {st : Stmt} {N ps : List Str} {dvs : List V} {k : Nat} {sp : Sp}
end
section
variable {X : Cx} {E : St → XK} {x : Str} {C : Addr} {e₀ : Expr} {es : List Expr} {t : TA} {np cpos pos : Pos} {k : Nat} {ps : List Str} {sp : Sp} {dvs : List V}
end
end L2

namespace L2
open PySem PySem.Spec PyProof.Rows
end L2

namespace PySem
namespace F
end F
section
variable {prog : Program} {w : World} {A : Around} {E : Value → Shared → Prop} {s : Shared}
end
end PySem
namespace L2
open PySem PySem.Spec PyProof.Rows
section
variable {X : Cx} {tg : Expr}
end
end L2

namespace L2
open PySem PySem.Spec PyProof.Rows
section
variable {X : Cx}
end
end L2

namespace L2
open PySem PySem.Spec PyProof.Rows
section
variable {X : Cx} {suite : List Stmt} {b₀ : Stmt} {x n : Str} {np hpos : Pos} {D : Addr} {i : Nat} {ts : TS} {rest : List ExceptHandler} {tr : TH}
end
end L2

namespace L2
open PySem PySem.Spec PyProof.Rows
section
variable {M : Model} {A : Around} {E : Value → Shared → Prop} {s : Shared}
end
section
variable {X : Cx} {pins : List (Addr × Obj)} {σ : St} {H : Hp} {s : Shared} {h' : Heap} {a T : Addr} {cls hd : Value} {dct : Option Addr}
end
section
variable {P : Program} {w : World} {K : PySem.W.Frag} {mg : Str → Option Value} {base : Heap} {N : List Str} {qual : Str} {scope : Scope} {f : Addr} {cd : Value} {A : Around} {outer : List Env} {s : Shared} {H : Hp} {E : XK}
end
section
variable {X : Cx} {pins : List (Addr × Obj)} {σ : St} {C : Addr} {E : XK}
end
section
variable {prog : Program} {w : World} {A : Around} {R : Result → Shared → Prop} {s : Shared}
end
section
variable {X : Cx} {E : XK} {scope : Scope} {xs N' : List Str} {target iter elt : Expr} {ifs : List Expr} {pos : Pos} {wi : TI} {g : TG} {tc : TT} {te : TE}
end
end L2

namespace L2
open PySem PySem.Spec PyProof.Rows
section
variable {X : Cx} {tg : Expr}
end
end L2

namespace L2
open PySem PySem.W PySem.Spec PyProof.Rows
section
variable {prog : Program} {w : World} {A : Around} {E : Value → Shared → Prop} {s : Shared} {K : PySem.W.Frag} {x y C D : Addr} {ox oy : Obj} {od od' : Option Obj} {name : Str} {id : String}
end
end L2

namespace L2
open PySem PySem.Spec PyProof.Rows
section
variable {X : Cx} {xs N' : List Str} {scope : Scope} {target iter elt : Expr} {ifs : List Expr} {pos : Pos} {tl : TE} {g : TG} {tc : TT} {te : TE}
end
end L2

namespace L2
open PySem PySem.Spec PyProof.Rows
section
variable {X : Cx} {e a b : Expr} {es : List Expr} {te ta tb : TE} {t : TA} {pos pos' : Pos}
theorem Room.m {j k : Nat} {A : Around} (r : Room k A) (h : j ≤ k := by decide) : Room j A := r.mono h
theorem pa_c (ha : PE X e te) (hr : PA X es t) (h : notStar e = true := by rfl) : PA X (e :: es) (tCons te t) := pa_cn ha hr h
theorem pa_1 (ha : PE X e te) (h : notStar e = true := by rfl) : PA X [e] (tCons te tNil) := pa_cn ha pa_nil h
theorem ps_sl (i : Nat) {x : Str} (hN : X.N.Nodup) (he : PE X e te) (hi : X.N[i]? = some x := by rfl) (hx : Loc X.env.scope x := by first | exact Or.inl rfl | exact Or.inr rfl) (hs : swapsWith e (some (.Name x pos')) pos.line X.env = pure false := by rfl) (hf : X.fn x = true ∨ X.env.scope.names.lookup x = some .local := by first | exact Or.inl rfl | exact Or.inr rfl) :
    PS X (.Assign [.Name x pos'] e pos) (tAsg te (gName i)) := ps_set hN hi hx he hs hf
theorem pe_x {r : R2} (hr : IxR X r) (ha : PE X a ta) (hb : PE X b tb) (hs : PlainIx b := by exact fun _ _ => rfl) : PE X (.Subscript a b pos) (tOp r ta tb) := pe_ix hr ha hb hs
end
end L2
namespace L2
open PySem PySem.Spec PyProof.Rows
section
variable {K : PySem.W.Frag} {h : Heap} {mg : Str → Option Value} {x : Str} {C d : Addr}
end
end L2

namespace L2
open PySem
theorem ex2 {α β : Sort _} {P : α → β → Prop} {a : α} {b : β} (h : P a b) : ∃ a b, P a b := ⟨a, b, h⟩
theorem ex3 {α β γ : Sort _} {P : α → β → γ → Prop} {a : α} {b : β} {c : γ} (h : P a b c) : ∃ a b c, P a b c := ⟨a, b, c, h⟩
theorem ex4 {α β γ δ : Sort _} {P : α → β → γ → δ → Prop} {a : α} {b : β} {c : γ} {d : δ} (h : P a b c d) : ∃ a b c d, P a b c d := ⟨a, b, c, d, h⟩
theorem ex6 {α β γ δ ε ζ : Sort _} {P : α → β → γ → δ → ε → ζ → Prop} {a : α} {b : β} {c : γ} {d : δ} {e : ε} {f : ζ} (h : P a b c d e f) : ∃ a b c d e f, P a b c d e f := ⟨a, b, c, d, e, f, h⟩
end L2

namespace L2
open PySem
theorem xl {X : Cx} {b : List Stmt} {D : Ends} {σ : St} {H : Hp} (h : let Y := X; let D' := D; let σ' := σ; ∃ t, PSs Y b t ∧ t D' σ' H) : ∃ t, PSs X b t ∧ t D σ H := h
theorem xo {X : Cx} {b : List Stmt} {D : Ends} {σ : St} {H : Hp} (h : let Y := X; ∃ t, PSs Y b t ∧ t D σ H) : ∃ t, PSs X b t ∧ t D σ H := h
theorem sq {t u : TS} {D : Ends} {σ : St} {H : Hp} (h : let D' : Ends := { D with nx := u D }; let σ' := σ; t D' σ' H) : tSeq t u D σ H := h
theorem lc {vs ws : List V} {n : Nat} {B : Prop} (h : ws.length = n) : vs = ws ∧ B → vs.length = n := fun e => e.1 ▸ h
theorem ex9 {α β γ δ ε ζ η θ ι : Sort _} {P : α → β → γ → δ → ε → ζ → η → θ → ι → Prop} {a : α} {b : β} {c : γ} {d : δ} {e : ε} {f : ζ} {g : η} {i : θ} {j : ι} (h : P a b c d e f g i j) : ∃ a b c d e f g i j, P a b c d e f g i j := ⟨a, b, c, d, e, f, g, i, j, h⟩
end L2

namespace L2
end L2

namespace ST
open PySem PyProof.Rows
def lc (M x : Nat) : Nat := (x * 5 + 1) % M
def it (M : Nat) : Nat → Nat → Nat
  | 0, x => x
  | t + 1, x => it M t (lc M x)
theorem it_add (M : Nat) : ∀ s t x, it M (s + t) x = it M t (it M s x)
  | 0, t, x => by rw [Nat.zero_add]; rfl
  | s + 1, t, x => by rw [Nat.succ_add]; exact it_add M s t (lc M x)
def orb (M : Nat) : Nat → Nat → List Nat
  | 0, _ => []
  | n + 1, x => x :: orb M n (lc M x)
theorem orb_mem {M : Nat} : ∀ {n x y}, y ∈ orb M n x → ∃ t, t < n ∧ it M t x = y
  | 0, _, _, h => nomatch h
  | n + 1, x, y, h => by
    rcases List.mem_cons.mp h with e | h
    · exact ⟨0, Nat.succ_pos _, e.symm⟩
    · obtain ⟨t, ht, e⟩ := orb_mem h
      exact ⟨t + 1, Nat.succ_lt_succ ht, e⟩
def good (M : Nat) : Bool := (List.range M).all (fun j => (orb M M 0).contains j) && it M M 0 == 0
def Siz (M : Nat) : Prop := M = 8 ∨ M = 16 ∨ M = 32 ∨ M = 64 ∨ M = 128 ∨ M = 256
theorem siz_good {M : Nat} (h : Siz M) : good M = true := by
  rcases h with rfl | rfl | rfl | rfl | rfl | rfl <;> decide +kernel
theorem cyc {M : Nat} (h : Siz M) {i j : Nat} (hi : i < M) (hj : j < M) : ∃ t, t < M ∧ it M t i = j := by
  have g := siz_good h
  unfold good at g
  rw [Bool.and_eq_true, beq_iff_eq, List.all_eq_true] at g
  have of : ∀ {k}, k < M → ∃ t, t < M ∧ it M t 0 = k := fun {k} hk => orb_mem (by simpa using g.1 k (List.mem_range.mpr hk))
  obtain ⟨a, ha, ea⟩ := of hi
  obtain ⟨b, hb, eb⟩ := of hj
  by_cases c : a ≤ b
  · refine ⟨b - a, by omega, ?_⟩
    rw [← ea, ← it_add, show a + (b - a) = b by omega]; exact eb
  · refine ⟨M - a + b, by omega, ?_⟩
    rw [← ea, ← it_add, show a + (M - a + b) = M + b by omega, it_add, g.2]; exact eb
def go (mask : Nat) : Nat → Nat → Nat → Nat × Nat
  | 0, i, p => (i, p)
  | t + 1, i, p => go mask t (SetTable.leap mask i p).1 (SetTable.leap mask i p).2
theorem go_add (mask : Nat) : ∀ s t i p, go mask (s + t) i p = go mask t (go mask s i p).1 (go mask s i p).2
  | 0, t, i, p => by rw [Nat.zero_add]; rfl
  | s + 1, t, i, p => by rw [Nat.succ_add]; exact go_add mask s t _ _
theorem go_p (mask : Nat) : ∀ t i p, (go mask t i p).2 = p / 32 ^ t
  | 0, i, p => by simp [go]
  | t + 1, i, p => by
    show (go mask t _ (p / 32)).2 = _
    rw [go_p mask t, Nat.div_div_eq_div_mul, Nat.pow_succ, Nat.mul_comm]
theorem go_lt (mask : Nat) : ∀ t i p, i < mask + 1 → (go mask t i p).1 < mask + 1
  | 0, i, p, h => h
  | t + 1, i, p, h => go_lt mask t _ _ (Nat.mod_lt _ (Nat.succ_pos _))
theorem go_it (mask : Nat) : ∀ t i, (go mask t i 0).1 = it (mask + 1) t i
  | 0, i => rfl
  | t + 1, i => by
    show (go mask t _ (0 / 32)).1 = it (mask + 1) t (lc (mask + 1) i)
    have : (SetTable.leap mask i 0).1 = lc (mask + 1) i := by unfold SetTable.leap lc; simp
    rw [show (0 / 32 : Nat) = 0 from rfl, this]; exact go_it mask t _
def Oc (owner : Array (Option Nat)) (j : Nat) : Prop := (owner.getD j (some 0)).isNone = false
theorem free_none {mask : Nat} {owner : Array (Option Nat)} : ∀ {f i p}, SetTable.layClean.free mask owner f i p = none → ∀ t, t < f → Oc owner (go mask t i p).1
  | 0, _, _, _, t, h => absurd h (Nat.not_lt_zero _)
  | f + 1, i, p, h, t, ht => by
    rw [SetTable.layClean.free.eq_2] at h
    split at h
    · cases h
    · next e =>
      cases t with
      | zero =>
        have := List.find?_eq_none.mp e 0 (List.mem_range.mpr (by
          have : i ≤ SetTable.runEnd mask i := by unfold SetTable.runEnd; split <;> omega
          omega))
        exact Bool.eq_false_iff.mpr this
      | succ t => exact free_none (f := f) h t (Nat.lt_of_succ_lt_succ ht)
theorem free_some {mask : Nat} {owner : Array (Option Nat)} : ∀ {f i p j}, SetTable.layClean.free mask owner f i p = some j → (owner.getD j (some 0)).isNone = true
  | 0, _, _, _, h => by cases h
  | f + 1, i, p, j, h => by
    rw [SetTable.layClean.free.eq_2] at h
    split at h
    · next k e =>
      cases h
      have := List.find?_some e
      exact this
    · exact free_some (f := f) h
theorem free_ok {mask : Nat} (hM : Siz (mask + 1)) {owner : Array (Option Nat)} {i p : Nat} (hi : i < mask + 1) (hp : p < 2 ^ 64) {j : Nat} (hj : j < mask + 1) (ho : ¬ Oc owner j) : ∃ j', SetTable.layClean.free mask owner (SetTable.turns mask) i p = some j' ∧ (owner.getD j' (some 0)).isNone = true := by
  cases e : SetTable.layClean.free mask owner (SetTable.turns mask) i p with
  | some j' => exact ⟨j', rfl, free_some e⟩
  | none =>
    exfalso
    have p13 : (go mask 13 i p).2 = 0 := by
      rw [go_p]
      exact Nat.div_eq_of_lt (Nat.lt_of_lt_of_le hp (by decide))
    obtain ⟨t, ht, et⟩ := cyc hM (go_lt mask 13 i p hi) hj
    have := free_none e (13 + t) (by unfold SetTable.turns; omega)
    rw [go_add, p13, go_it, et] at this
    exact ho this
end ST

namespace ST
open PySem PyProof.Rows
def Ri (t : SetTable) : Prop := t.place.toList.Pairwise (· < ·)
theorem pw_get {l : List Nat} (h : l.Pairwise (· < ·)) {i j : Nat} (hi : i < l.length) (hj : j < l.length) (c : i < j) : l[i] < l[j] := List.pairwise_iff_getElem.mp h i j hi hj c
structure Bel (xs : Array Nat) (j k : Nat) : Prop where
  le : k ≤ xs.size
  lo : ∀ (i : Nat) x, i < k → xs[i]? = some x → x < j
  hi : ∀ (i : Nat) x, k ≤ i → xs[i]? = some x → j ≤ x
theorem below_go {xs : Array Nat} {j : Nat} (h : xs.toList.Pairwise (· < ·)) : ∀ {f lo hi : Nat}, hi - lo ≤ f → lo ≤ hi → hi ≤ xs.size → (∀ (i : Nat) x, i < lo → xs[i]? = some x → x < j) → (∀ (i : Nat) x, hi ≤ i → xs[i]? = some x → j ≤ x) → Bel xs j (SetTable.below.go xs j f lo hi)
  | 0, lo, hi, hf, h1, h2, h3, h4 => by
    have : lo = hi := by omega
    subst this
    exact ⟨h2, h3, h4⟩
  | f + 1, lo, hi, hf, h1, h2, h3, h4 => by
    rw [SetTable.below.go.eq_2]
    by_cases c : lo < hi
    · rw [if_pos c]
      dsimp only
      have ml : (lo + hi) / 2 < xs.size := by omega
      have em : xs[(lo + hi) / 2]? = some xs[(lo + hi) / 2] := Array.getElem?_eq_getElem ml
      have ed : xs.getD ((lo + hi) / 2) j = xs[(lo + hi) / 2] := by simp [Array.getD, ml]
      rw [ed]
      have ord : ∀ (i k : Nat) x y, i < k → xs[i]? = some x → xs[k]? = some y → x < y := fun i k x y ik ex ey => by
        obtain ⟨il, rfl⟩ := Array.getElem?_eq_some_iff.mp ex
        obtain ⟨kl, rfl⟩ := Array.getElem?_eq_some_iff.mp ey
        have := pw_get h (i := i) (j := k) (by simpa using il) (by simpa using kl) ik
        simpa using this
      by_cases d : xs[(lo + hi) / 2] < j
      · rw [if_pos d]
        refine below_go h (by omega) (by omega) h2 (fun i x hi' ex => ?_) h4
        by_cases e : i = (lo + hi) / 2
        · subst e; rw [em] at ex; cases ex; exact d
        · exact Nat.lt_trans (ord _ _ _ _ (by omega) ex em) d
      · rw [if_neg d]
        refine below_go h (by omega) (by omega) (by omega) h3 (fun i x hi' ex => ?_)
        by_cases e : i = (lo + hi) / 2
        · subst e; rw [em] at ex; cases ex; omega
        · have := ord _ _ _ _ (show (lo + hi) / 2 < i by omega) em ex
          omega
    · rw [if_neg c]
      have : lo = hi := by omega
      subst this
      exact ⟨h2, h3, h4⟩
theorem below_ok {xs : Array Nat} (h : xs.toList.Pairwise (· < ·)) (j : Nat) : Bel xs j (SetTable.below xs j) :=
  below_go h (by omega) (by omega) (by omega) (fun i x hi => absurd hi (Nat.not_lt_zero _)) (fun i x hi ex => by
    have := (Array.getElem?_eq_some_iff.mp ex).1
    omega)
theorem Bel.mem {xs : Array Nat} {j k : Nat} (b : Bel xs j k) (h : xs.toList.Pairwise (· < ·)) (m : j ∈ xs.toList) : xs[k]? = some j := by
  obtain ⟨i, il, e⟩ := List.getElem_of_mem m
  have il' : i < xs.size := by simpa using il
  have ei : xs[i]? = some j := by rw [← e]; simp [il']
  by_cases c : i < k
  · have := b.lo i j c ei
    omega
  · by_cases d : i = k
    · subst d; exact ei
    · have kl : k < xs.size := by omega
      have ek : xs[k]? = some xs[k] := Array.getElem?_eq_getElem kl
      have h1 := b.hi k _ (Nat.le_refl _) ek
      have h2 := pw_get h (i := k) (j := i) (by simpa using kl) il (by omega)
      rw [e] at h2
      have h2 : xs[k] < j := by simpa using h2
      omega
theorem insert_ri {xs : Array Nat} {j k : Nat} (h : xs.toList.Pairwise (· < ·)) (b : Bel xs j k) (n : j ∉ xs.toList) : (SetTable.insertAt xs k j).toList.Pairwise (· < ·) := by
  have e : (SetTable.insertAt xs k j).toList = xs.toList.take k ++ j :: xs.toList.drop k := by
    unfold SetTable.insertAt
    simp
    exact List.take_of_length_le (by simp)
  rw [e]
  have pt : (xs.toList.take k).Pairwise (· < ·) := h.sublist (List.take_sublist _ _)
  have pd : (xs.toList.drop k).Pairwise (· < ·) := h.sublist (List.drop_sublist _ _)
  have lt : ∀ x ∈ xs.toList.take k, x < j := fun x m => by
    obtain ⟨i, il, e⟩ := List.getElem_of_mem m
    rw [List.length_take, Array.length_toList] at il
    rw [List.getElem_take] at e
    refine b.lo i x (by omega) ?_
    rw [← e]
    simp [show i < xs.size by omega]
  have gt : ∀ x ∈ xs.toList.drop k, j < x := fun x m => by
    have mx : x ∈ xs.toList := List.mem_of_mem_drop m
    obtain ⟨i, il, e⟩ := List.getElem_of_mem m
    rw [List.length_drop, Array.length_toList] at il
    rw [List.getElem_drop] at e
    have := b.hi (k + i) x (by omega) (by rw [← e]; simp [show k + i < xs.size by omega])
    have ne : j ≠ x := fun z => n (z ▸ mx)
    omega
  refine List.pairwise_append.mpr ⟨pt, List.pairwise_cons.mpr ⟨gt, pd⟩, fun x hx y hy => ?_⟩
  rcases List.mem_cons.mp hy with rfl | hy
  · exact lt x hx
  · exact Nat.lt_trans (lt x hx) (gt y hy)
theorem notlive {t : SetTable} {j : Nat} (h : Ri t) (n : ∀ i, t.slot j ≠ .live i) : j ∉ t.place.toList := fun m => by
  have e := (below_ok h j).mem h m
  refine n (SetTable.below t.place j) ?_
  unfold SetTable.slot
  dsimp only
  rw [if_pos (by rw [e]; simp)]
theorem probe_go {t : SetTable} {f : Nat → Int} {h : Int} : ∀ {n : Nat} {p : SetTable.Probe} {j : Nat} {dm : Option Nat}, (∀ d, p.dummy = some d → ∀ i, t.slot d ≠ .live i) → SetTable.probe.go t f h n p = some (.empty j dm) → (∀ i, t.slot j ≠ .live i) ∧ ∀ d, dm = some d → ∀ i, t.slot d ≠ .live i
  | 0, p, j, dm, hp, e => by cases e
  | n + 1, p, j, dm, hp, e => by
    rw [SetTable.probe.go.eq_2] at e
    have adv : ∀ q : SetTable.Probe, (t.advance q).dummy = q.dummy := fun q => by
      unfold SetTable.advance
      split
      · rfl
      · rfl
    split at e
    · next s => cases e; exact ⟨fun i z => (by rw [s] at z; cases z), hp⟩
    · next s =>
      refine probe_go (n := n) (fun d hd => ?_) e
      rw [adv] at hd
      cases hd
      intro i z; rw [s] at z; cases z
    · next i s =>
      split at e
      · cases e
      · exact probe_go (n := n) (fun d hd => hp d (by rwa [adv] at hd)) e
theorem freeSlot_ri {t : SetTable} (h : Ri t) {hs : Int} {j : Nat} {wd : Bool} (e : t.freeSlot hs = some (j, wd)) : Ri (t.put j).1 := by
  unfold SetTable.freeSlot at e
  split at e
  · next j' dm hp =>
    obtain ⟨a1, a2⟩ := probe_go (p := t.probeStart hs) (fun d hd => by cases hd) hp
    cases e
    have nl : ∀ i, t.slot (dm.getD j') ≠ .live i := by
      cases dm with
      | none => exact a1
      | some d => exact a2 d rfl
    exact insert_ri h (below_ok h _) (notlive h nl)
  · cases e
theorem range_ri (n : Nat) : (Array.range n).toList.Pairwise (· < ·) := by
  rw [Array.toList_range]
  exact List.pairwise_lt_range
theorem orStand_ri {t : SetTable} (h : Ri t) (n : Nat) : Ri (t.orStandIn n) := by
  unfold SetTable.orStandIn
  split
  · exact h
  · exact range_ri n
theorem layNew_ri {t : SetTable} (hr : Ri t) (es : Array (Int × Value)) (h : Int) (x : Value) : Ri (layNew t es h x).2.1 := by
  unfold layNew
  split
  · next slot wd e =>
    dsimp only
    exact orStand_ri (freeSlot_ri hr e) _
  · exact range_ri _
theorem laid_ri {mask finger moves : Nat} {led plain : Bool} {hs : Array Int} {t' : SetTable} {order : Array Nat} (e : SetTable.laid mask finger moves led plain hs = some (t', order)) : Ri t' := by
  unfold SetTable.laid at e
  cases c : SetTable.layClean mask hs with
  | none => rw [c] at e; cases e
  | some ow =>
    rw [c] at e
    cases e
    show List.Pairwise (· < ·) (List.map _ _).toArray.toList
    rw [List.toList_toArray]
    have sub : ∀ l : List Nat, List.Sublist ((l.filterMap fun j => Option.map (fun x => (j, x)) (ow.getD j none)).map fun x => x.fst) l := by
      intro l
      induction l with
      | nil => exact .slnil
      | cons x l ih =>
        rw [List.filterMap_cons]
        cases ow.getD x none with
        | none => exact ih.cons _
        | some y => exact ih.cons_cons _
    exact List.pairwise_lt_range.sublist (sub _)
theorem relayAll_ri {t : SetTable} (es : Array (Int × Value)) (m : Nat) (hr : Ri t) : Ri (relayAll t es m).2.1 := by
  unfold relayAll
  split
  · next t' order e =>
    dsimp only
    split
    · exact laid_ri e
    · exact range_ri _
  · exact range_ri _
end ST

namespace ST
open PySem PyProof.Rows
theorem fm_set {m : Nat} : ∀ {l : List (Option Nat)} {j : Nat}, l[j]? = some none → ((l.set j (some m)).filterMap id).Perm (m :: l.filterMap id)
  | [], j, h => by cases h
  | x :: l, 0, h => by
    cases h
    simp
  | x :: l, j + 1, h => by
    have h : l[j]? = some none := h
    have ih := fm_set (m := m) h
    rw [List.set_cons_succ]
    cases x with
    | none => simpa using ih
    | some y =>
      simp only [List.filterMap_cons, id]
      exact (ih.cons y).trans (List.Perm.swap _ _ _)
theorem fm_all : ∀ {l : List (Option Nat)}, (∀ j : Nat, l[j]? ≠ some none) → (l.filterMap id).length = l.length
  | [], _ => rfl
  | x :: l, h => by
    cases x with
    | none => exact absurd rfl (h 0)
    | some y =>
      simp only [List.filterMap_cons, id, List.length_cons]
      rw [fm_all fun j => h (j + 1)]
theorem fm_range {l : List (Option Nat)} : (List.range l.length).filterMap (fun j => l.getD j none) = l.filterMap id := by
  induction l with
  | nil => rfl
  | cons x l ih =>
    rw [List.length_cons, List.range_succ_eq_map, List.filterMap_cons, List.filterMap_map]
    have : (fun j => (x :: l).getD j none) ∘ Nat.succ = fun j => l.getD j none := by funext j; simp
    rw [this, ih]
    cases x <;> simp
def stp (mask : Nat) (acc : Option (Array (Option Nat) × Nat)) (h : Int) : Option (Array (Option Nat) × Nat) := do
  let __x ← acc
  match __x with
    | (owner, k) => do
      let j ← SetTable.layClean.free mask owner (SetTable.turns mask) (SetTable.bits h % (mask + 1)) (SetTable.bits h)
      pure (owner.setIfInBounds j (some k), k + 1)
structure Pl (mask : Nat) (owner : Array (Option Nat)) (k : Nat) : Prop where
  sz : owner.size = mask + 1
  pm : (owner.toList.filterMap id).Perm (List.range k)
theorem stp_ok {mask : Nat} (hM : Siz (mask + 1)) {owner : Array (Option Nat)} {k : Nat} (P : Pl mask owner k) (hk : k ≤ mask) (h : Int) : ∃ owner', stp mask (some (owner, k)) h = some (owner', k + 1) ∧ Pl mask owner' (k + 1) := by
  have hb : SetTable.bits h < 2 ^ 64 := by
    unfold SetTable.bits
    have := Int.emod_lt_of_pos h (show (0 : Int) < 2 ^ 64 by decide)
    have := Int.emod_nonneg h (show (2 ^ 64 : Int) ≠ 0 by decide)
    omega
  obtain ⟨j, hj, ho⟩ : ∃ j, j < mask + 1 ∧ ¬ Oc owner j := by
    by_cases z : ∃ j, j < mask + 1 ∧ ¬ Oc owner j
    · exact z
    · exfalso
      have : ∀ j : Nat, owner.toList[j]? ≠ some none := fun j e => by
        have jl : j < owner.size := by have := (List.getElem?_eq_some_iff.mp e).1; simpa using this
        have oc : Oc owner j := by
          by_cases w : Oc owner j
          · exact w
          · exact absurd ⟨j, by rw [← P.sz]; exact jl, w⟩ z
        unfold Oc at oc
        have e2 : owner.getD j (some 0) = none := by
          rw [Array.getElem?_toList] at e
          simp [Array.getD_eq_getD_getElem?, e]
        rw [e2] at oc
        cases oc
      have l := fm_all this
      have := P.pm.length_eq
      rw [l, List.length_range, Array.length_toList, P.sz] at this
      omega
  obtain ⟨j', e', n'⟩ := free_ok hM (Nat.mod_lt _ (Nat.succ_pos _) : SetTable.bits h % (mask + 1) < mask + 1) hb hj ho
  have gj : owner.toList[j']? = some none := by
    rw [Array.getElem?_toList]
    rw [Array.getD_eq_getD_getElem?] at n'
    cases g : owner[j']? with
    | none => rw [g] at n'; cases n'
    | some x =>
      rw [g] at n'
      cases x with
      | none => rfl
      | some y => cases n'
  refine ⟨owner.setIfInBounds j' (some k), ?_, ⟨by rw [Array.size_setIfInBounds]; exact P.sz, ?_⟩⟩
  · show (do let j ← SetTable.layClean.free mask owner (SetTable.turns mask) (SetTable.bits h % (mask + 1)) (SetTable.bits h); pure (owner.setIfInBounds j (some k), k + 1)) = _
    rw [e']; rfl
  · rw [Array.toList_setIfInBounds, List.range_succ]
    exact (fm_set gj).trans ((P.pm.cons k).trans (List.perm_append_singleton k (List.range k)).symm)
theorem fold_ok {mask : Nat} (hM : Siz (mask + 1)) : ∀ {hs : List Int} {owner : Array (Option Nat)} {k : Nat}, Pl mask owner k → k + hs.length ≤ mask → ∃ owner', hs.foldl (stp mask) (some (owner, k)) = some (owner', k + hs.length) ∧ Pl mask owner' (k + hs.length)
  | [], owner, k, P, _ => ⟨owner, rfl, P⟩
  | h :: hs, owner, k, P, hl => by
    rw [List.length_cons] at hl
    obtain ⟨o1, e1, P1⟩ := stp_ok hM P (by omega) h
    obtain ⟨o2, e2, P2⟩ := fold_ok hM (hs := hs) P1 (by omega)
    refine ⟨o2, ?_, ?_⟩
    · rw [List.foldl_cons, e1, e2, List.length_cons, show k + 1 + hs.length = k + (hs.length + 1) by omega]
    · rw [List.length_cons, show k + (hs.length + 1) = k + 1 + hs.length by omega]; exact P2
theorem layClean_eq (mask : Nat) (hs : Array Int) : SetTable.layClean mask hs = Option.map (fun x => x.fst) (hs.toList.foldl (stp mask) (some (Array.replicate (mask + 1) none, 0))) := by
  rw [Array.foldl_toList]; rfl
theorem laid_ok {mask : Nat} (hM : Siz (mask + 1)) {finger moves : Nat} {led plain : Bool} {hs : Array Int} (h : hs.size ≤ mask) :
    ∃ t' order, SetTable.laid mask finger moves led plain hs = some (t', order) ∧ order.toList.Perm (List.range hs.size) ∧ t'.place.size = hs.size ∧ t'.mask = mask ∧ t'.dummies = #[] ∧ t'.led = led ∧ Ri t' := by
  have P0 : Pl mask (Array.replicate (mask + 1) none) 0 := ⟨by simp, by simp [List.filterMap_replicate]⟩
  obtain ⟨o, e, P⟩ := fold_ok hM (hs := hs.toList) P0 (by simpa using h)
  have el : SetTable.layClean mask hs = some o := by rw [layClean_eq, e]; rfl
  rw [Nat.zero_add, Array.length_toList] at P
  have ord : (((List.range (mask + 1)).filterMap fun j => Option.map (fun x => (j, x)) (o.getD j none)).map fun x => x.snd) = o.toList.filterMap id := by
    rw [List.map_filterMap, ← fm_range, Array.length_toList, P.sz]
    congr 1
    funext j
    have : o.getD j none = o.toList.getD j none := by simp [Array.getD_eq_getD_getElem?, List.getD_eq_getElem?_getD]
    rw [this]
    cases o.toList.getD j none <;> rfl
  have rr : ∀ t' order, SetTable.laid mask finger moves led plain hs = some (t', order) → Ri t' := fun t' order e => laid_ri e
  refine ⟨_, _, by unfold SetTable.laid; rw [el]; rfl, ?_, ?_, rfl, rfl, rfl, rr _ _ (by unfold SetTable.laid; rw [el]; rfl)⟩
  · have pm := P.pm
    rw [← ord] at pm
    exact pm
  · have := congrArg List.length ord
    rw [List.length_map] at this
    have l := P.pm.length_eq
    rw [List.length_range] at l
    simp only [List.size_toArray, List.length_map]
    omega
end ST

namespace ST
open PySem PyProof.Rows
def SetL {prog : Program} {w : World} {K : Type} [DecidableEq K] (knd : PySem.KeyKind prog w K) (h : Heap) (a : Addr) (S : K → Bool) (n : Nat) (b : Bool) : Prop :=
  ∃ o es ep t, h.get? a = some o ∧ o.ExactSet ∧ o.data = Data.set es ep t ∧ ElemsOf knd es.toList ∧ (∀ k, S k = true ↔ ∃ e, e ∈ es.toList ∧ knd.is k e.snd = true) ∧ es.size < scanBound ∧ t.fits es.size = true ∧ es.size = n ∧ t.led = b ∧ Ri t
section
variable {prog : Program} {w : World} {K : Type} [DecidableEq K] {knd : PySem.KeyKind prog w K} {A : Around} {E : Value → Shared → Prop} {s : Shared} {a : Addr} {S : K → Bool} {n : Nat} {b : Bool}
theorem layNew_led (t : SetTable) (es : Array (Int × Value)) (h : Int) (x : Value) : (layNew t es h x).2.1.led = t.led := by
  unfold layNew
  split
  · next slot wd e =>
    dsimp only
    unfold SetTable.orStandIn
    split <;> rfl
  · rfl
theorem relayAll_led (t : SetTable) (es : Array (Int × Value)) (m : Nat) : (relayAll t es m).2.1.led = t.led := by
  unfold relayAll
  split
  · next t' order e =>
    have : t'.led = t.led := by
      unfold SetTable.relaid SetTable.laid at e
      cases c : SetTable.layClean (SetTable.sizeAbove m - 1) (Array.map (fun x => x.fst) es) with
      | none => rw [c] at e; cases e
      | some ow => rw [c] at e; cases e; rfl
    dsimp only
    split
    · exact this
    · rfl
  · rfl
theorem SetL.store {h : Heap} {o : Obj} {es es' : Array (Int × Value)} {ep : Nat} {t t' : SetTable} {S' : K → Bool} (h1 : h.get? a = some o) (h2 : o.ExactSet) (h3 : o.data = Data.set es ep t) (e1 : ElemsOf knd es'.toList) (e2 : ∀ k, S' k = true ↔ ∃ e, e ∈ es'.toList ∧ knd.is k e.snd = true) (e3 : es'.size < scanBound) (e4 : t'.fits es'.size = true) (e5 : Ri t') :
    (h.update a (Obj.putSet es' t')).get? a = some { cls := o.cls, dict := o.dict, data := Data.set es' (ep + 1) t', slots := o.slots } ∧ SetL knd (h.update a (Obj.putSet es' t')) a S' es'.size t'.led := by
  obtain ⟨g, _⟩ := SetOf_store (knd := knd) h1 h2 h3 e1 e2 e3 e4
  exact ⟨g, _, es', ep + 1, t', g, ⟨h2.1, h2.2.1, h2.2.2⟩, rfl, e1, e2, e3, e4, rfl, rfl, e5⟩
theorem wp_add {k : K} {x : Value} {Q : Bool → Shared → Prop} (ik : knd.is k x = true) (sc : x.scannable = true) (hs : SetL knd s.heap a S n b) (hn : n + 1 < scanBound)
    (q : ∀ h', Heap.SameBut a s.heap h' → SetL knd h' a (fun k' => S k' || decide (k' = k)) (if S k = true then n else n + 1) b → Q (!S k) { heap := h', gens := s.gens, drawn := s.drawn, toks := s.toks, os := s.os }) : wpAny (model prog w) A (setAddHashed a x (knd.hash k)) Q E s := by
  have hs0 := hs
  obtain ⟨o, es, ep, t, h1, h2, h3, h4, h5, h6, h7, rfl, rfl, h8⟩ := hs
  unfold setAddHashed
  refine wpAny_holding ?_
  rw [setAddHashedIn.eq_def]
  dsimp only
  refine wpAny_bind (wpAny_setState_of h1 h3 h7 ?_)
  dsimp only
  rw [if_pos (byScan_of sc h6 h4)]
  refine wpAny_bind ?_
  unfold setAddByScan
  refine wpAny_bind (wpAny_rule ?_)
  refine wpAny_bind (wpAny_setScan_of ik h1 h3 h7 h4 ?_)
  cases f : List.findIdx? (fun e => knd.is k e.snd) es.toList with
  | some j =>
    dsimp only
    refine wpAny_pure ?_
    dsimp only
    refine wpAny_pure ?_
    have sk : S k = true := by
      rw [h5]
      obtain ⟨jl, p, _⟩ := List.findIdx?_eq_some_iff_getElem.mp f
      exact ⟨_, List.getElem_mem jl, p⟩
    have := q s.heap (Heap.SameBut.refl ..)
    rw [sk, if_pos rfl] at this
    refine this ?_
    have ef : (fun k' => S k' || decide (k' = k)) = S := by
      funext k'
      by_cases c : k' = k
      · rw [c, sk]; rfl
      · simp [c]
    rw [ef]; exact hs0
  | none =>
    have sk : S k = false := by
      rw [← Bool.not_eq_true, h5]
      rintro ⟨e, m, i⟩
      have := List.findIdx?_eq_none_iff.mp f e m
      rw [i] at this; cases this
    have q := q
    rw [sk, if_neg (by decide)] at q
    dsimp only
    have pm := layNew_perm t es (knd.hash k) x
    have ft := layNew_fits t es (knd.hash k) x
    have ld := layNew_led t es (knd.hash k) x
    have lr := layNew_ri h8 es (knd.hash k) x
    obtain ⟨⟨es1, t1, wd, gv⟩, el⟩ : ∃ r, layNew t es (knd.hash k) x = r := ⟨_, rfl⟩
    rw [el] at pm ft ld lr ⊢
    have pm : es1.toList.Perm (es.push (knd.hash k, x)).toList := pm
    have ft : t1.fits es1.size = true := ft
    have ld : t1.led = t.led := ld
    have lr : Ri t1 := lr
    have sz : es1.size = es.size + 1 := by have := pm.length_eq; rw [Array.length_toList, Array.length_toList, Array.size_push] at this; exact this
    have g0 : ∀ {gv : Bool} {s1 : Shared} {Q' : Unit → Shared → Prop} (y : Sem Unit), y = (match gv with | true => rule "set.scan.the-table-gave-way" | false => pure ()) → Q' () s1 → wpAny (model prog w) A y Q' E s1 := fun {gv s1 Q'} y e h => by
      rw [e]
      cases gv
      · exact wpAny_pure h
      · exact wpAny_rule h
    have e1 : ElemsOf knd es1.toList := fun e m => by
      have m := pm.mem_iff.mp m
      rw [Array.toList_push] at m
      rcases List.mem_append.mp m with m | m
      · exact h4 e m
      · rw [List.mem_singleton.mp m]; exact ⟨⟨k, ik, rfl⟩, sc⟩
    have e2 : ∀ k', (S k' || decide (k' = k)) = true ↔ ∃ e, e ∈ es1.toList ∧ knd.is k' e.snd = true := fun k' => by
      rw [Bool.or_eq_true, h5, decide_eq_true_eq]
      constructor
      · rintro (⟨e, m, i⟩ | rfl)
        · exact ⟨e, pm.mem_iff.mpr (by rw [Array.toList_push]; exact List.mem_append_left _ m), i⟩
        · exact ⟨_, pm.mem_iff.mpr (by rw [Array.toList_push]; exact List.mem_append_right _ (List.mem_singleton.mpr rfl)), ik⟩
      · rintro ⟨e, m, i⟩
        have m := pm.mem_iff.mp m
        rw [Array.toList_push] at m
        rcases List.mem_append.mp m with m | m
        · exact .inl ⟨e, m, i⟩
        · rw [List.mem_singleton.mp m] at i
          exact .inr (knd.inj _ _ _ i ik)
    dsimp only
    refine wpAny_bind (g0 (gv := gv) _ rfl ?_)
    have tail : ∀ t2 : SetTable, t2.fits es1.size = true → t2.led = t.led → Ri t2 → wpAny (model prog w) A (do
          storeSet a es1 t2
          if (!wd && t2.tooFull) = true then
              match relayAll t2 es1 (SetTable.grown es1.size) with
              | (es, t, gave) => do
                (match gave with | true => rule "set.scan.the-table-gave-way" | false => pure ())
                storeSet a es t
                pure (some true)
            else pure (some true)) (fun r s' => wpAny (model prog w) A (match r with | some added => pure added | none => setAddHashedIn a x (knd.hash k) 99999) Q E s') E s := fun t2 f2 l2 r2 => by
      refine wpAny_bind (wpAny_storeSet_of h1 h3 ?_ (by rw [sz, sizeLine_eq]; have : scanBound = 4096 := rfl; omega))
      obtain ⟨g1, g2⟩ := SetL.store (knd := knd) (S' := fun k' => S k' || decide (k' = k)) h1 h2 h3 e1 e2 (by rw [sz]; exact hn) f2 r2
      by_cases c : (!wd && t2.tooFull) = true
      · rw [if_pos c]
        have rp := relayAll_perm t2 es1 (SetTable.grown es1.size)
        have rf := relayAll_fits t2 es1 (SetTable.grown es1.size)
        have rl := relayAll_led t2 es1 (SetTable.grown es1.size)
        have rr := relayAll_ri es1 (SetTable.grown es1.size) r2
        obtain ⟨⟨es3, t3, gv3⟩, er⟩ : ∃ r, relayAll t2 es1 (SetTable.grown es1.size) = r := ⟨_, rfl⟩
        rw [er] at rp rf rl rr ⊢
        have rp : es3.toList.Perm es1.toList := rp
        have rf : t3.fits es3.size = true := rf
        have rl : t3.led = t2.led := rl
        have rr : Ri t3 := rr
        have s3 : es3.size = es1.size := by have := rp.length_eq; rwa [Array.length_toList, Array.length_toList] at this
        dsimp only
        refine wpAny_bind (g0 (gv := gv3) _ rfl ?_)
        refine wpAny_bind (wpAny_storeSet_of g1 rfl ?_ (by rw [s3, sz, sizeLine_eq]; have : scanBound = 4096 := rfl; omega))
        refine wpAny_pure ?_
        dsimp only
        refine wpAny_pure ?_
        obtain ⟨_, g4⟩ := SetL.store (knd := knd) (S' := fun k' => S k' || decide (k' = k)) g1 ⟨h2.1, h2.2.1, h2.2.2⟩ rfl (e1.perm rp) (fun k' => (e2 k').trans ⟨fun ⟨e, m, i⟩ => ⟨e, rp.mem_iff.mpr m, i⟩, fun ⟨e, m, i⟩ => ⟨e, rp.mem_iff.mp m, i⟩⟩) (by rw [s3, sz]; exact hn) rf rr
        rw [s3, sz, rl, l2] at g4
        exact q _ ((Heap.SameBut.update ..).trans (Heap.SameBut.update ..)) g4
      · rw [if_neg c]
        refine wpAny_pure ?_
        dsimp only
        refine wpAny_pure ?_
        rw [sz, l2] at g2
        exact q _ (Heap.SameBut.update ..) g2
    by_cases pl : t1.plain = true
    · rw [if_pos pl, hashByValue_scannable 8 sc]
      refine wpAny_bind (wpAny_pure ?_)
      cases hp : plainKind x with
      | true => exact tail t1 ft ld lr
      | false => exact tail _ (SetTable.fits_plain_off ft) ld lr
    · rw [if_neg pl]
      refine wpAny_bind (wpAny_pure ?_)
      exact tail t1 ft ld lr
end
end ST

namespace ST
open PySem PyProof.Rows
theorem fmA {es : Array (Int × Value)} {order : Array Nat} (h : order.toList.Perm (List.range es.size)) : (Array.filterMap (fun x => es[x]?) order).toList.Perm es.toList := by
  rw [Array.toList_filterMap]
  have e : (List.range es.size).filterMap (fun x => es[x]?) = es.toList := by
    have : ∀ l : List (Int × Value), (List.range l.length).filterMap (fun x => l[x]?) = l := by
      intro l
      induction l with
      | nil => rfl
      | cons x l ih =>
        rw [List.length_cons, List.range_succ_eq_map, List.filterMap_cons, List.filterMap_map]
        show x :: (List.range l.length).filterMap (fun j => (x :: l)[j + 1]?) = x :: l
        have : (fun j => (x :: l)[j + 1]?) = fun j => l[j]? := by funext j; simp
        rw [this, ih]
    have h := this es.toList
    rw [Array.length_toList] at h
    rw [← h]
    congr 1
    funext x
    rw [Array.getElem?_toList]
  exact (h.filterMap _).trans (by rw [e])
section
variable {prog : Program} {w : World} {K : Type} [DecidableEq K] {knd : PySem.KeyKind prog w K} {A : Around} {E : Value → Shared → Prop} {s : Shared} {a : Addr} {S : K → Bool} {n : Nat} {b : Bool}
theorem wp_relay {wanted : Nat} {Q : Unit → Shared → Prop} (h : SetL knd s.heap a S n b) (hw : Siz (SetTable.sizeAbove wanted)) (hn : n < SetTable.sizeAbove wanted)
    (q : ∀ h', Heap.SameBut a s.heap h' → SetL knd h' a S n b → Q () { heap := h', gens := s.gens, drawn := s.drawn, toks := s.toks, os := s.os }) : wpAny (model prog w) A (setRelay a wanted) Q E s := by
  obtain ⟨o, es, ep, t, h1, h2, h3, h4, h5, h6, h7, rfl, rfl, h8⟩ := h
  have l256 : SetTable.sizeAbove wanted ≤ 256 ∧ 8 ≤ SetTable.sizeAbove wanted := by unfold Siz at hw; omega
  unfold setRelay
  refine wpAny_bind (wpAny_setState_of h1 h3 h7 ?_)
  dsimp only
  rw [if_neg (by rw [sizeLine_eq]; omega)]
  obtain ⟨t', order, e, pm, ps, pk, pd, pl, pr⟩ := laid_ok (mask := SetTable.sizeAbove wanted - 1) (finger := t.finger) (moves := t.movedTo (SetTable.sizeAbove wanted - 1)) (led := t.led) (plain := t.plain) (hs := es.map fun x => x.fst) (by rw [show SetTable.sizeAbove wanted - 1 + 1 = SetTable.sizeAbove wanted by omega]; exact hw) (by rw [Array.size_map]; omega)
  rw [Array.size_map] at pm ps
  have el : t.relaid (Array.map (fun x => x.fst) es) wanted = some (t', order) := e
  rw [el]
  have pe := fmA pm
  have sz : (Array.filterMap (fun x => es[x]?) order).size = es.size := by have := pe.length_eq; rwa [Array.length_toList, Array.length_toList] at this
  refine wpAny_bind (?_ : wpAny _ _ (ite (((Array.filterMap (fun x => es[x]?) order).size != es.size) = true) _ (pure (Array.filterMap (fun x => es[x]?) order, t'))) _ _ _)
  rw [if_neg (by rw [sz]; simp)]
  refine wpAny_pure ?_
  dsimp only
  refine wpAny_storeSet_of h1 h3 ?_ (by rw [sz, sizeLine_eq]; omega)
  have fits : t'.fits (Array.filterMap (fun x => es[x]?) order).size = true := by
    rw [sz]
    unfold SetTable.fits SetTable.fill
    rw [ps, pk, pd, Bool.and_eq_true, beq_iff_eq, decide_eq_true_eq]
    exact ⟨rfl, by show es.size + 0 ≤ _; omega⟩
  have st := SetL.store (knd := knd) h1 h2 h3 (S' := S) (h4.perm pe) (fun k => by rw [h5]; exact ⟨fun ⟨e, m, i⟩ => ⟨e, pe.mem_iff.mpr m, i⟩, fun ⟨e, m, i⟩ => ⟨e, pe.mem_iff.mp m, i⟩⟩) (by rw [sz]; exact h6) fits pr
  rw [sz, pl] at st
  exact q _ (Heap.SameBut.update ..) st.2
theorem wp_roomFor {more : Nat} {Q : Unit → Shared → Prop} (h : SetL knd s.heap a S n b) (hn : n + more < 128)
    (q : ∀ h', Heap.SameBut a s.heap h' → SetL knd h' a S n b → Q () { heap := h', gens := s.gens, drawn := s.drawn, toks := s.toks, os := s.os }) : wpAny (model prog w) A (setRoomFor a more) Q E s := by
  have h0 := h
  obtain ⟨o, es, ep, t, h1, h2, h3, h4, h5, h6, h7, rfl, rfl, h8⟩ := h
  unfold setRoomFor
  refine wpAny_bind (wpAny_setState_of h1 h3 h7 ?_)
  dsimp only
  have pz : t.place.size = es.size := by
    unfold SetTable.fits at h7
    rw [Bool.and_eq_true, beq_iff_eq] at h7
    exact h7.1
  unfold SetTable.roomFor
  split
  · next wd e =>
    split at e
    · cases e
      rw [pz]
      have sa : ∀ m, m < 256 → Siz (SetTable.sizeAbove m) ∧ m < SetTable.sizeAbove m := by
        intro m hm
        have : m < 8 ∨ (8 ≤ m ∧ m < 16) ∨ (16 ≤ m ∧ m < 32) ∨ (32 ≤ m ∧ m < 64) ∨ (64 ≤ m ∧ m < 128) ∨ (128 ≤ m ∧ m < 256) := by omega
        unfold SetTable.sizeAbove
        simp only [SetTable.sizeAbove.go]
        rcases this with c | c | c | c | c | c
        · rw [if_neg (by omega)]; exact ⟨by unfold Siz; omega, by omega⟩
        · rw [if_pos (by omega), if_neg (by omega)]; exact ⟨by unfold Siz; omega, by omega⟩
        · rw [if_pos (by omega), if_pos (by omega), if_neg (by omega)]; exact ⟨by unfold Siz; omega, by omega⟩
        · rw [if_pos (by omega), if_pos (by omega), if_pos (by omega), if_neg (by omega)]; exact ⟨by unfold Siz; omega, by omega⟩
        · rw [if_pos (by omega), if_pos (by omega), if_pos (by omega), if_pos (by omega), if_neg (by omega)]; exact ⟨by unfold Siz; omega, by omega⟩
        · rw [if_pos (by omega), if_pos (by omega), if_pos (by omega), if_pos (by omega), if_pos (by omega), if_neg (by omega)]; exact ⟨by unfold Siz; omega, by omega⟩
      obtain ⟨z1, z2⟩ := sa ((es.size + more) * 2) (by omega)
      exact wp_relay h0 z1 (by omega) q
    · cases e
  · exact wpAny_pure (q _ (Heap.SameBut.refl ..) h0)
end
end ST

namespace ST
open PySem PyProof.Rows
theorem wp_forL {M : Model} {A : Around} {E : Value → Shared → Prop} {f : Nat → PUnit → Sem (ForInStep PUnit)} (I : Nat → Shared → Prop) {Q : PUnit → Shared → Prop} {n : Nat}
    (step : ∀ i s, i < n → I i s → wpAny M A (f i ⟨⟩) (fun r s' => r = .yield ⟨⟩ ∧ I (i + 1) s') E s) (fin : ∀ s, I n s → Q ⟨⟩ s) : ∀ {m k : Nat} {s : Shared}, k + m = n → I k s → wpAny M A (forIn (List.range' k m) PUnit.unit f) Q E s
  | 0, k, s, e, h => by
    rw [show List.range' k 0 = [] from rfl]
    refine wpAny_pure ?_
    rw [show k = n by omega] at h
    exact fin s h
  | m + 1, k, s, e, h => by
    rw [List.range'_succ, List.forIn_cons]
    refine wpAny_bind (wpAny_mono (step k s (by omega) h) ?_ fun _ _ e => e)
    rintro r s' ⟨rfl, h'⟩
    exact wp_forL I step fin (by omega) h'
theorem wp_for {M : Model} {A : Around} {E : Value → Shared → Prop} {s : Shared} {f : Nat → PUnit → Sem (ForInStep PUnit)} (I : Nat → Shared → Prop) {Q : PUnit → Shared → Prop} {n : Nat}
    (h0 : I 0 s) (step : ∀ i s, i < n → I i s → wpAny M A (f i ⟨⟩) (fun r s' => r = .yield ⟨⟩ ∧ I (i + 1) s') E s) (fin : ∀ s, I n s → Q ⟨⟩ s) : wpAny M A (forIn [:n] PUnit.unit f) Q E s := by
  rw [Std.Legacy.Range.forIn_eq_forIn_range']
  have : (Std.Legacy.Range.size [:n]) = n := by simp [Std.Legacy.Range.size]
  rw [this]
  exact wp_forL I step fin (by show 0 + n = n; omega) h0
section
variable {prog : Program} {w : World} {K : Type} [DecidableEq K] {knd : PySem.KeyKind prog w K} {A : Around} {E : Value → Shared → Prop} {s : Shared} {a d : Addr} {b : Bool}
theorem pairs_at {l : List DictEntry} {kv : List (K × Value)} (p : Pairs knd l kv) : ∀ (i : Nat) (e : DictEntry), l[i]? = some e → ∃ q : K × Value, kv[i]? = some q ∧ knd.is q.1 e.key = true := by
  induction p with
  | nil => intro i e h; cases h
  | cons h1 h2 h3 ih =>
    intro i e h
    cases i with
    | zero => cases h; exact ⟨_, rfl, h1⟩
    | succ i => exact ih i e h
theorem wp_upd {id : String} {kvs : List (K × Value)} {Q : Unit → Shared → Prop} (hd : s.heap.DictOf knd d kvs) (nm : (d == sysModules) = false) (nd : d ≠ a) (h : SetL knd s.heap a (fun _ => false) 0 b) (hl : kvs.length < 100)
    (sc : ∀ k v, knd.is k v = true → v.scannable = true)
    (q : ∀ h', Heap.SameBut a s.heap h' → SetL knd h' a (fun k => (kvs.map (·.1)).contains k) kvs.length b → Q () { heap := h', gens := s.gens, drawn := s.drawn, toks := s.toks, os := s.os }) : wpAny (model prog w) A (Builtin.Frozenset.updateFrom id a (.ref d)) Q E s := by
  obtain ⟨o, es, ep, h1, h2, h3, h4, h5, h6⟩ := hd
  have tis : s.TypeIs (.ref d) "dict" := ⟨o, h1, h2.1⟩
  have hz : es.size = kvs.length := by
    have : ∀ {l : List DictEntry} {kv : List (K × Value)}, Pairs knd l kv → l.length = kv.length := by
      intro l kv p
      induction p with
      | nil => rfl
      | cons _ _ _ ih => rw [List.length_cons, List.length_cons, ih]
    have := this h5
    simpa using this
  unfold Builtin.Frozenset.updateFrom
  refine wpAny_bind ?_
  unfold Builtin.Frozenset.isAnySet
  refine (?_ : wpAny _ _ (bind (isInstance (Value.ref d) (Value.type "set")) _) _ _ _)
  refine wpAny_bind (wpAny_isInstance tis F.sub_dict_set ?_)
  refine wpAny_isInstance tis F.sub_dict_frozenset ?_
  rw [if_neg (by decide)]
  refine wpAny_bind (wpAny_typeOf tis ?_)
  rw [if_pos (by decide)]
  refine wpAny_bind (wpAny_rule ?_)
  refine wpAny_bind (wpAny_pure ?_)
  dsimp only
  rw [nm, if_neg (by decide)]
  refine wpAny_bind (wpAny_dictEpoch h1 h3 ?_)
  refine wpAny_bind (wpAny_dictEntries h1 h3 ?_)
  refine wpAny_bind (wp_roomFor h (by omega) fun h' sb hs => ?_)
  refine wpAny_bind (wpAny_dictEntries (show h'.get? d = some o from (sb.2 d nd).trans h1) h3 ?_)
  refine wpAny_bind (wp_for (I := fun i s' => ∃ h2, s' = { heap := h2, gens := s.gens, drawn := s.drawn, toks := s.toks, os := s.os } ∧ Heap.SameBut a s.heap h2 ∧ SetL knd h2 a (fun k => ((kvs.map (·.1)).take i).contains k) i b) ⟨h', rfl, sb, ?_⟩ ?_ ?_)
  · rw [List.take_zero]; exact hs
  · rintro i s' hi ⟨h2, rfl, sb2, hs2⟩
    have hd2 : h2.get? d = some o := (sb2.2 d nd).trans h1
    refine wpAny_bind (wpAny_dictEntries hd2 h3 ?_)
    obtain ⟨e, he⟩ : ∃ e, es[i]? = some e := ⟨_, Array.getElem?_eq_getElem hi⟩
    rw [he]
    dsimp only
    obtain ⟨p, hp, ip⟩ := pairs_at h5 i e (by rw [Array.getElem?_toList]; exact he)
    obtain ⟨k', ik, eh⟩ := h4 e (Array.mem_of_getElem? he)
    have ek : k' = p.1 := knd.inj _ _ _ ik ip
    subst ek
    rw [eh]
    have il : i < kvs.length := by omega
    have hk : (kvs.map (·.1))[i]? = some p.1 := by rw [List.getElem?_map, hp]; rfl
    have nin : ((kvs.map (·.1)).take i).contains p.1 = false := by
      rw [← Bool.not_eq_true, List.contains_iff_mem]
      intro m
      obtain ⟨j, hj, ej⟩ := List.mem_take_iff_getElem.mp m
      have := (List.getElem_inj (h₀ := by omega) (h₁ := (List.getElem?_eq_some_iff.mp hk).1) h6).mp (ej.trans (List.getElem?_eq_some_iff.mp hk).2.symm)
      omega
    refine wpAny_bind (wpAny_holding (wp_add ip (sc _ _ ip) hs2 (by show i + 1 < 4096; omega) fun h3' sb3 hs3 => ?_))
    have hd3 : h3'.get? d = some o := (sb3.2 d nd).trans hd2
    refine wpAny_bind (wpAny_dictEpoch hd3 h3 ?_)
    rw [if_neg (by simp)]
    refine wpAny_pure ⟨rfl, h3', rfl, sb2.trans sb3, ?_⟩
    rw [nin, if_neg (by decide)] at hs3
    have ef : (fun k => ((kvs.map (·.1)).take (i + 1)).contains k) = fun k' => ((kvs.map (·.1)).take i).contains k' || decide (k' = p.1) := by
      funext k
      rw [List.take_add_one, hk, Bool.eq_iff_iff]
      simp
    rw [ef]; exact hs3
  · rintro s' ⟨h2, rfl, sb2, hs2⟩
    refine wpAny_pure (q h2 sb2 ?_)
    rw [hz] at hs2
    rw [List.take_of_length_le (by rw [List.length_map]; exact Nat.le_refl _)] at hs2
    exact hs2
end
end ST

namespace ST
open PySem PyProof.Rows
abbrev ldW (w : World) : Bool := !w.params.followText "set-order"
theorem wp_newSet {prog : Program} {w : World} {A : Around} {E : Value → Shared → Prop} {s : Shared} {Q : Value → Shared → Prop}
    (q : Q (Value.ref s.heap.objs.size) { heap := s.heap.push { cls := Value.type "set", data := Data.set #[] 0 (SetTable.fresh 0 0 (ldW w)) }, gens := s.gens, drawn := s.drawn, toks := s.toks, os := s.os }) : wpAny (model prog w) A (newSet (Value.type "set")) Q E s := by
  unfold newSet setsByText
  refine wpAny_bind (wpAny_bind (wpAny_askSetting (wpAny_pure ?_)))
  dsimp only
  exact wpAny_newObj_type q (by first | exact Nat.zero_le _ | (unfold sizeOk; exact Nat.zero_le _) | (simp [sizeOk]))
theorem code_set_new' {prog : Program} {w : World} {A : Around} {E : Value → Shared → Prop} {s : Shared} (a : Value) {Q₁ : Value → Shared → Prop}
    (q : Q₁ (Value.ref s.heap.objs.size) { heap := s.heap.push { cls := Value.type "set", data := Data.set #[] 0 (SetTable.fresh 0 0 (ldW w)) }, gens := s.gens, drawn := s.drawn, toks := s.toks, os := s.os }) :
    codeAny (model prog w) A (Code.call (Value.builtin "set.__new__") { pos := [Value.type "set", a] }) (wants Q₁ E) s := by
  refine codeAny_call_builtin F.plain_set_new F.entry_set_new ?_
  rw [F.newCall_set_1]
  refine wpAny_pure ?_
  unfold Builtin.«set.__new__» Builtin.Frozenset.newClass
  dsimp only
  refine wpAny_bind (wpAny_bind (wpAny_pure ?_))
  rw [if_neg (by decide), sub_set_self]
  refine wpAny_bind (wpAny_pure ?_)
  rw [if_neg (by decide)]
  refine wpAny_pure ?_
  refine wpAny_bind (wp_newSet ?_)
  exact wpAny_pure q
section
variable {prog : Program} {w : World} {A : Around} {E : Value → Shared → Prop} {s : Shared}
theorem callType' {T newId initId : String} {Bi : Builtin} {args : List Value} {Q Q₁ : Value → Shared → Prop} (h : TypeCalled T newId initId) (hc : checkTypeCall T { pos := args } = pure ()) (hi : entryFor table initId = some Bi) (hp : plainId initId = true)
    (hn : codeAny (model prog w) A.in1 (Code.call (Value.builtin newId) { pos := Value.type T :: args }) (wants Q₁ E) s)
    (q : ∀ (obj : Value) (s₁ : Shared), Q₁ obj s₁ → s₁.TypeIs obj T ∧ (∀ {A' : Around} {Q' : Unit → Shared → Prop}, Q' () s₁ → wpAny (model prog w) A' (checkBuiltinCall initId { pos := obj :: args }) Q' E s₁) ∧
      ∀ A' : Around, A'.handled = A.handled → wpAny (model prog w) A' (Bi { pos := obj :: args }) (fun fin s' => fin = Fin.done (Flow.ret Value.none) ∧ Q obj s') E s₁) :
    wpAny (model prog w) A (call (Value.type T) args) Q E s := by
  refine wpAny_call (codeAny_of_tree ?_)
  refine (?_ : wpAny _ _ (pure (Fin.again (Code.builtin "type.__call__" { pos := Value.type T :: args }))) _ _ _)
  refine wpAny_pure ⟨show (Code.builtin "type.__call__" { pos := Value.type T :: args }).quiet = true from Code.quiet_builtin _ (by decide +kernel), codeAny_builtin F.entry_type_call ?_⟩
  unfold Builtin.«type.__call__»
  dsimp only
  rw [h.notType, if_neg (by decide), h.canCreate, if_neg (by decide), hc]
  refine wpAny_bind (wpAny_pure ?_)
  obtain ⟨c, tl, hm⟩ := h.mro
  rw [hm]
  refine wpAny_bind (wpAny_pure ?_)
  rw [if_neg (by simp), h.made]
  refine wpAny_bind (wpAny_pure ?_)
  dsimp only
  refine wpAny_bind (wpAny_pure ?_)
  refine wpAny_bind (wpAny_holding (wpAny_call ?_))
  rw [Around.under_plain (weight_type_call_type ..) (units_type_call_type ..)]
  refine codeAny_mono hn ?_
  intro r s1 hr
  match r, hr with
  | Except.ok (Flow.ret obj), hr =>
    obtain ⟨t1, t2, t3⟩ := q obj s1 hr
    refine wpAny_bind (wpAny_isInstance t1 h.sub ?_)
    rw [if_neg (by decide)]
    refine wpAny_bind (wpAny_holding ?_)
    unfold callSpecial?
    refine wpAny_bind (wpAny_specialOf t1 h.init.lookup ?_)
    dsimp only
    refine wpAny_holding ?_
    rw [h.init.bind]
    refine wpAny_bind (wpAny_pure ?_)
    dsimp only
    refine wpAny_bind (wpAny_call (codeAny_call_builtin hp hi ?_))
    refine t2 (wpAny_mono (t3 _ rfl) ?_ fun _ _ e => e)
    rintro fin s2 ⟨rfl, q2⟩
    refine wpAny_pure ?_
    dsimp only
    rw [if_neg (by decide)]
    exact wpAny_pure q2
  | Except.error e, hr => exact hr
end
section
variable {prog : Program} {w : World} {K : Type} [DecidableEq K] {knd : PySem.KeyKind prog w K} {A : Around} {E : Value → Shared → Prop} {s : Shared} {a d : Addr}
theorem call_set_dict {kvs : List (K × Value)} {Q : Value → Shared → Prop} (hd : s.heap.DictOf knd d kvs) (nm : (d == sysModules) = false) (hl : kvs.length < 100) (sc : ∀ k v, knd.is k v = true → v.scannable = true)
    (q : ∀ h', (∀ (b : Nat) (o : Obj), s.heap.get? b = some o → h'.get? b = some o) → h'.objs.size = s.heap.objs.size + 1 → SetL knd h' s.heap.objs.size (fun k => decide (k ∈ kvs.map (·.1))) kvs.length (ldW w) → Q (.ref s.heap.objs.size) { heap := h', gens := s.gens, drawn := s.drawn, toks := s.toks, os := s.os }) :
    wpAny (model prog w) A (call (.type "set") [.ref d]) Q E s := by
  refine callType' (Q₁ := fun obj s₁ => obj = .ref s.heap.objs.size ∧ s₁ = { heap := s.heap.push { cls := Value.type "set", data := Data.set #[] 0 (SetTable.fresh 0 0 (ldW w)) }, gens := s.gens, drawn := s.drawn, toks := s.toks, os := s.os }) F.called_set (F.typeCall_set_1 _) F.entry_set_init (by decide +kernel) (code_set_new' _ ⟨rfl, rfl⟩) fun obj s₁ h₁ => ?_
  obtain ⟨rfl, rfl⟩ := h₁
  have g1 : (s.heap.push { cls := Value.type "set", data := Data.set #[] 0 (SetTable.fresh 0 0 (ldW w)) }).get? s.heap.objs.size = some { cls := Value.type "set", data := Data.set #[] 0 (SetTable.fresh 0 0 (ldW w)) } := Heap.get?_push_size _ rfl
  have ty : Shared.TypeIs { heap := s.heap.push { cls := Value.type "set", data := Data.set #[] 0 (SetTable.fresh 0 0 (ldW w)) }, gens := s.gens, drawn := s.drawn, toks := s.toks, os := s.os } (.ref s.heap.objs.size) "set" := ⟨_, g1, rfl⟩
  refine ⟨ty, fun hq => check_set_init_1 ty hq, fun A' _ => ?_⟩
  have hS : SetL knd (s.heap.push { cls := Value.type "set", data := Data.set #[] 0 (SetTable.fresh 0 0 (ldW w)) }) s.heap.objs.size (fun _ => false) 0 (ldW w) := ⟨_, #[], 0, _, g1, ⟨rfl, rfl, rfl⟩, rfl, fun e m => by simp at m, fun k => by simp, by decide, rfl, rfl, rfl, List.Pairwise.nil⟩
  obtain ⟨o, es, ep, h1, h2, h3, h4, h5, h6⟩ := id hd
  have nd : d ≠ s.heap.objs.size := Nat.ne_of_lt (Heap.lt_size h1)
  unfold Builtin.«set.__init__»
  refine wpAny_bind (wpAny_pure ?_)
  dsimp only
  unfold typeNameOfCut shownTypeOf
  refine wpAny_bind (wpAny_bind (wpAny_bind (wpAny_typeOf ty ?_)))
  rw [if_neg (by decide)]
  refine wpAny_pure ?_
  refine (?_ : wpAny _ _ (typeName (Value.type "set")) _ _ _)
  unfold typeName
  dsimp only
  refine wpAny_pure ?_
  generalize (Manifest.find? "set").elim "set" _ = nm0
  refine wpAny_bind (?_ : wpAny _ _ (pure ()) _ _ _)
  refine wpAny_pure ?_
  refine wpAny_bind (wpAny_pure ?_)
  refine wpAny_bind ?_
  unfold setUsed
  refine wpAny_bind (wpAny_setState_of g1 rfl rfl ?_)
  refine wpAny_pure ?_
  rw [if_neg (by show ¬ (0 != 0) = true; decide)]
  have hd' : (s.heap.push { cls := Value.type "set", data := Data.set #[] 0 (SetTable.fresh 0 0 (ldW w)) }).DictOf knd d kvs := ⟨o, es, ep, Heap.get?_push_of_some _ h1, h2, h3, h4, h5, h6⟩
  refine wpAny_bind (wp_upd hd' nm nd hS hl sc fun h' sb hs => ?_)
  refine wpAny_pure ⟨rfl, q h' (fun b o e => ?_) ?_ ?_⟩
  · rw [sb.2 b (Nat.ne_of_lt (Heap.lt_size e))]
    exact Heap.get?_push_of_some _ e
  · rw [sb.1, Heap.size_push]
  · have ef : (fun k => decide (k ∈ kvs.map (·.1))) = fun k => @List.contains K instBEqOfDecidableEq (kvs.map (·.1)) k := by
      funext k
      rw [Bool.eq_iff_iff]
      simp
    rw [ef]; exact hs
end
end ST

namespace ST
open PySem PyProof.Rows
theorem sizes (m : Nat) (hm : m < 256) : Siz (SetTable.sizeAbove m) ∧ m < SetTable.sizeAbove m := by
  have : m < 8 ∨ (8 ≤ m ∧ m < 16) ∨ (16 ≤ m ∧ m < 32) ∨ (32 ≤ m ∧ m < 64) ∨ (64 ≤ m ∧ m < 128) ∨ (128 ≤ m ∧ m < 256) := by omega
  unfold SetTable.sizeAbove
  simp only [SetTable.sizeAbove.go]
  rcases this with c | c | c | c | c | c
  · rw [if_neg (by omega)]; exact ⟨by unfold Siz; omega, by omega⟩
  · rw [if_pos (by omega), if_neg (by omega)]; exact ⟨by unfold Siz; omega, by omega⟩
  · rw [if_pos (by omega), if_pos (by omega), if_neg (by omega)]; exact ⟨by unfold Siz; omega, by omega⟩
  · rw [if_pos (by omega), if_pos (by omega), if_pos (by omega), if_neg (by omega)]; exact ⟨by unfold Siz; omega, by omega⟩
  · rw [if_pos (by omega), if_pos (by omega), if_pos (by omega), if_pos (by omega), if_neg (by omega)]; exact ⟨by unfold Siz; omega, by omega⟩
  · rw [if_pos (by omega), if_pos (by omega), if_pos (by omega), if_pos (by omega), if_pos (by omega), if_neg (by omega)]; exact ⟨by unfold Siz; omega, by omega⟩
structure Emp (h : Heap) (a : Addr) (n : Nat) (b : Bool) : Prop where
  at' : ∃ o ep t, h.get? a = some o ∧ o.ExactSet ∧ o.data = Data.set #[] ep t ∧ t.place.size = 0 ∧ t.dummies = #[] ∧ Siz (t.mask + 1) ∧ n ≤ t.mask ∧ t.led = b
section
variable {prog : Program} {w : World} {A : Around} {E : Value → Shared → Prop} {s : Shared} {a l : Addr} {n : Nat}
theorem wp_roomFresh {led : Bool} {Q : Unit → Shared → Prop} (h : s.heap.get? a = some { cls := Value.type "set", data := Data.set #[] 0 (SetTable.fresh 0 0 led) }) (hn : n < 128)
    (q : ∀ h', Heap.SameBut a s.heap h' → Emp h' a n led → Q () { heap := h', gens := s.gens, drawn := s.drawn, toks := s.toks, os := s.os }) : wpAny (model prog w) A (setRoomFor a n) Q E s := by
  unfold setRoomFor
  refine wpAny_bind (wpAny_setState_of h rfl rfl ?_)
  dsimp only
  unfold SetTable.roomFor
  split
  · next wd e =>
    split at e
    · cases e
      have ez : (SetTable.fresh 0 0 led).place.size = 0 := rfl
      rw [ez, Nat.zero_add]
      obtain ⟨z1, z2⟩ := sizes (n * 2) (by omega)
      have l256 : SetTable.sizeAbove (n * 2) ≤ 256 ∧ 8 ≤ SetTable.sizeAbove (n * 2) := by unfold Siz at z1; omega
      unfold setRelay
      refine wpAny_bind (wpAny_setState_of h rfl rfl ?_)
      dsimp only
      rw [if_neg (by rw [sizeLine_eq]; omega)]
      obtain ⟨t', order, e, pm, ps, pk, pd, pl, pr⟩ := laid_ok (mask := SetTable.sizeAbove (n * 2) - 1) (finger := (SetTable.fresh 0 0 led).finger) (moves := (SetTable.fresh 0 0 led).movedTo (SetTable.sizeAbove (n * 2) - 1)) (led := (SetTable.fresh 0 0 led).led) (plain := (SetTable.fresh 0 0 led).plain) (hs := Array.map (fun x => x.fst) (#[] : Array (Int × Value))) (by rw [show SetTable.sizeAbove (n * 2) - 1 + 1 = SetTable.sizeAbove (n * 2) by omega]; exact z1) (by rw [Array.size_map]; exact Nat.zero_le _)
      rw [Array.size_map] at pm ps
      have el : (SetTable.fresh 0 0 led).relaid (Array.map (fun x => x.fst) (#[] : Array (Int × Value))) (n * 2) = some (t', order) := e
      rw [el]
      have pe := fmA (es := #[]) pm
      have sz : (Array.filterMap (fun x => (#[] : Array (Int × Value))[x]?) order) = #[] := by
        have := pe.length_eq
        rw [Array.length_toList] at this
        exact Array.eq_empty_of_size_eq_zero this
      refine wpAny_bind (?_ : wpAny _ _ (ite (((Array.filterMap (fun x => (#[] : Array (Int × Value))[x]?) order).size != (#[] : Array (Int × Value)).size) = true) _ (pure (Array.filterMap (fun x => (#[] : Array (Int × Value))[x]?) order, t'))) _ _ _)
      rw [if_neg (by rw [sz]; decide)]
      refine wpAny_pure ?_
      dsimp only
      rw [sz]
      refine wpAny_storeSet_of h rfl ?_ (Nat.zero_le _)
      refine q _ (Heap.SameBut.update ..) ⟨{ cls := Value.type "set", data := Data.set #[] 1 t' }, 1, t', ?_, ⟨rfl, rfl, rfl⟩, rfl, ps, pd, by rw [pk, show SetTable.sizeAbove (n * 2) - 1 + 1 = SetTable.sizeAbove (n * 2) by omega]; exact z1, by rw [pk]; omega, pl⟩
      exact (SetOf_store (knd := intKind prog w) (S' := fun _ => false) h ⟨rfl, rfl, rfl⟩ rfl (es' := #[]) (t' := t') (fun e m => by simp at m) (fun k => by simp) (by decide) (by unfold SetTable.fits SetTable.fill; rw [ps, pd]; simp)).1
    · cases e
  · next e =>
    refine wpAny_pure (q _ (Heap.SameBut.refl ..) ⟨_, 0, _, h, ⟨rfl, rfl, rfl⟩, rfl, rfl, rfl, .inl rfl, ?_, rfl⟩)
    have : ¬ ((SetTable.fresh 0 0 led).fill + n) * 5 ≥ (SetTable.fresh 0 0 led).mask * 3 := fun z => e _ (if_pos z)
    have : ¬ (0 + n) * 5 ≥ 7 * 3 := this
    show n ≤ 7
    omega
end
end ST

namespace ST
open PySem PyProof.Rows
section
variable {prog : Program} {w : World} {K : Type} [DecidableEq K] {knd : PySem.KeyKind prog w K} {A : Around} {E : Value → Shared → Prop} {s : Shared} {a l : Addr} {S : K → Bool} {n : Nat} {b : Bool}
theorem wp_merge0 {led : Bool} {each : Sem Unit} {Q : Unit → Shared → Prop} (h : s.heap.get? a = some { cls := Value.type "set", data := Data.set #[] 0 (SetTable.fresh 0 0 led) }) (hl : SetL knd s.heap l S n led) (na : a ≠ l) (hn : n < 128)
    (q : ∀ h', Heap.SameBut a s.heap h' → SetL knd h' a S n led → Q () { heap := h', gens := s.gens, drawn := s.drawn, toks := s.toks, os := s.os }) : wpAny (model prog w) A (setMerge a l each) Q E s := by
  obtain ⟨o, es, ep, t, h1, h2, h3, h4, h5, h6, h7, rfl, hb, hr⟩ := hl
  have hk := h7
  unfold SetTable.fits at hk
  rw [Bool.and_eq_true, beq_iff_eq, decide_eq_true_eq] at hk
  unfold setMerge
  rw [if_neg (by simpa using na)]
  refine wpAny_bind (wpAny_setState_of h1 h3 h7 ?_)
  dsimp only
  by_cases z : es.isEmpty = true
  · rw [if_pos z]
    refine wpAny_pure (q _ (Heap.SameBut.refl ..) ?_)
    have e0 : es = #[] := by simpa using z
    subst e0
    have ef : S = fun _ => false := by
      funext k
      rw [← Bool.not_eq_true, h5]
      simp
    rw [ef]
    exact ⟨_, #[], 0, _, h, ⟨rfl, rfl, rfl⟩, rfl, fun e m => by simp at m, fun k => by simp, by decide, rfl, rfl, rfl, List.Pairwise.nil⟩
  · rw [if_neg z]
    refine wpAny_bind (wp_roomFresh h hn fun h' sb em => ?_)
    obtain ⟨o', ep', t', g1, g2, g3, g4, g5, g6, g7, g8⟩ := em.at'
    have fz : t'.fill = 0 := by unfold SetTable.fill; rw [g4, g5]; rfl
    refine wpAny_bind (wpAny_setState_of g1 g3 (by unfold SetTable.fits; rw [fz, g4]; simp) ?_)
    dsimp only
    have fin : ∀ {es2 : Array (Int × Value)} {t2 : SetTable}, es2.toList.Perm es.toList → t2.fits es2.size = true → t2.led = led → Ri t2 → wpAny (model prog w) A (storeSet a es2 t2) Q E { heap := h', gens := s.gens, drawn := s.drawn, toks := s.toks, os := s.os } := fun {es2 t2} pm ft l2 r2 => by
      have sz : es2.size = es.size := by have := pm.length_eq; rwa [Array.length_toList, Array.length_toList] at this
      refine wpAny_storeSet_of g1 g3 ?_ (by rw [sz, sizeLine_eq]; omega)
      have st := SetL.store (knd := knd) g1 g2 g3 (S' := S) (h4.perm pm) (fun k => by rw [h5]; exact ⟨fun ⟨e, m, i⟩ => ⟨e, pm.mem_iff.mpr m, i⟩, fun ⟨e, m, i⟩ => ⟨e, pm.mem_iff.mp m, i⟩⟩) (by rw [sz]; exact h6) ft r2
      rw [sz, l2] at st
      exact q _ (sb.trans (Heap.SameBut.update ..)) st.2
    unfold SetTable.road
    rw [if_neg (by rw [fz]; decide)]
    by_cases c : (t'.mask == t.mask && t.dummies.isEmpty) = true
    · rw [if_pos c]
      dsimp only
      exact fin (List.Perm.refl _) h7 (by show (t'.led && t.led) = led; rw [g8, hb, Bool.and_self]) hr
    · rw [if_neg c]
      dsimp only
      obtain ⟨t3, order, e, pm, ps, pk, pd, pl, pr⟩ := laid_ok (mask := t'.mask) (finger := t'.finger) (moves := t'.moves) (led := t'.led && t.led) (plain := t'.plain && t.plain) (hs := es.map fun x => x.fst) g6 (by rw [Array.size_map]; exact g7)
      rw [Array.size_map] at pm ps
      rw [e]
      have pe := fmA pm
      have sz : (Array.filterMap (fun x => es[x]?) order).size = es.size := by have := pe.length_eq; rwa [Array.length_toList, Array.length_toList] at this
      refine wpAny_bind (?_ : wpAny _ _ (ite (((Array.filterMap (fun x => es[x]?) order).size != es.size) = true) _ (pure (Array.filterMap (fun x => es[x]?) order, t3))) _ _ _)
      rw [if_neg (by rw [sz]; simp)]
      refine wpAny_pure ?_
      dsimp only
      refine fin pe ?_ (by rw [pl, g8, hb, Bool.and_self]) pr
      rw [sz]
      unfold SetTable.fits SetTable.fill
      rw [ps, pk, pd, Bool.and_eq_true, beq_iff_eq, decide_eq_true_eq]
      exact ⟨rfl, by show es.size + 0 ≤ _; omega⟩
end
end ST

namespace ST
open PySem PyProof.Rows
section
variable {prog : Program} {w : World} {K : Type} [DecidableEq K] {knd : PySem.KeyKind prog w K} {A : Around} {E : Value → Shared → Prop} {s : Shared} {a l : Addr} {S : K → Bool} {n : Nat} {b : Bool}
theorem SetL.typeIs (h : SetL knd s.heap a S n b) : s.TypeIs (Value.ref a) "set" := by
  obtain ⟨o, es, ep, t, h1, h2, _⟩ := h
  exact ⟨o, h1, h2.1⟩
theorem SetL.keep {h h' : Heap} (H : SetL knd h a S n b) (k : h'.get? a = h.get? a) : SetL knd h' a S n b := by
  obtain ⟨o, es, ep, t, h1, r⟩ := H
  exact ⟨o, es, ep, t, k.trans h1, r⟩
theorem SetL.lt {h : Heap} (H : SetL knd h a S n b) : a < h.objs.size := by
  obtain ⟨o, es, ep, t, h1, r⟩ := H
  exact Heap.lt_size h1
theorem wp_copyOf {Q : Value → Shared → Prop} (hl : SetL knd s.heap l S n (ldW w)) (hn : n < 128)
    (q : ∀ h', (∀ (b : Nat) (o : Obj), s.heap.get? b = some o → h'.get? b = some o) → h'.objs.size = s.heap.objs.size + 1 → SetL knd h' s.heap.objs.size S n (ldW w) → Q (.ref s.heap.objs.size) { heap := h', gens := s.gens, drawn := s.drawn, toks := s.toks, os := s.os }) :
    wpAny (model prog w) A (Builtin.Frozenset.copyOf l) Q E s := by
  unfold Builtin.Frozenset.copyOf Builtin.Frozenset.baseOf
  refine wpAny_bind (wpAny_bind (wpAny_isInstance hl.typeIs sub_set_self (wpAny_pure ?_)))
  rw [if_pos rfl]
  refine wpAny_bind (wp_newSet ?_)
  refine wpAny_bind (wpAny_pure ?_)
  have g1 : (s.heap.push { cls := Value.type "set", data := Data.set #[] 0 (SetTable.fresh 0 0 (ldW w)) }).get? s.heap.objs.size = some { cls := Value.type "set", data := Data.set #[] 0 (SetTable.fresh 0 0 (ldW w)) } := Heap.get?_push_size _ rfl
  have ne : s.heap.objs.size ≠ l := Nat.ne_of_gt hl.lt
  have hl' : SetL knd (s.heap.push { cls := Value.type "set", data := Data.set #[] 0 (SetTable.fresh 0 0 (ldW w)) }) l S n (ldW w) := by
    obtain ⟨o, es, ep, t, h1, r⟩ := hl
    exact ⟨o, es, ep, t, Heap.get?_push_of_some _ h1, r⟩
  refine wpAny_bind (wp_merge0 g1 hl' ne hn fun h' sb hs => ?_)
  refine wpAny_pure (q h' (fun b o e => ?_) ?_ hs)
  · rw [sb.2 b (Nat.ne_of_lt (Heap.lt_size e))]
    exact Heap.get?_push_of_some _ e
  · rw [sb.1, Heap.size_push]
end
theorem erase_perm {α : Type} : ∀ {l : List α} {i : Nat} (h : i < l.length), (l[i] :: l.eraseIdx i).Perm l
  | [], i, h => absurd h (Nat.not_lt_zero _)
  | x :: l, 0, h => .refl _
  | x :: l, i + 1, h => (List.Perm.swap _ _ _).trans ((erase_perm (l := l) (i := i) (Nat.lt_of_succ_lt_succ h)).cons x)
theorem pick_go {α : Type} {next : Nat → Nat} : ∀ {f : Nat} {k : Nat} {l : List α} {acc : Array α}, l.length ≤ f → (pickOrder.go next f k l acc).toList.Perm (acc.toList ++ l)
  | 0, k, l, acc, h => by
    have : l = [] := List.eq_nil_of_length_eq_zero (by omega)
    subst this
    rw [List.append_nil]
    exact .refl _
  | f + 1, k, l, acc, h => by
    rw [pickOrder.go.eq_2]
    cases e : l[next k % l.length]? with
    | none =>
      have z : l = [] := by
        by_cases c : l = []
        · exact c
        · have : 0 < l.length := List.length_pos_iff.mpr c
          have := Nat.mod_lt (next k) this
          rw [List.getElem?_eq_none_iff] at e
          omega
      subst z
      rw [List.append_nil]
    | some x =>
      obtain ⟨il, ex⟩ := List.getElem?_eq_some_iff.mp e
      have ih := pick_go (next := next) (f := f) (k := k + 1) (l := l.eraseIdx (next k % l.length)) (acc := acc.push x) (by rw [List.length_eraseIdx_of_lt il]; omega)
      dsimp only
      refine ih.trans ?_
      rw [Array.toList_push, List.append_assoc]
      refine List.Perm.append_left _ ?_
      rw [← ex]
      exact erase_perm il
theorem pick_perm {α : Type} {next : Nat → Nat} {xs : Array α} : (pickOrder next xs).toList.Perm xs.toList := by
  have := pick_go (next := next) (f := xs.size) (k := 0) (l := xs.toList) (acc := #[]) (by simp)
  simpa [pickOrder] using this
end ST

namespace ST
open PySem PyProof.Rows
section
variable {M : Model} {A : Around} {E : Value → Shared → Prop} {s : Shared}
theorem wp_choose {src : Source} {n : Nat} {Q : Nat → Shared → Prop} (h : n ≠ 0) (q : ∀ i d', i < n → Q i { heap := s.heap, gens := s.gens, drawn := d', toks := s.toks, os := s.os }) : wpAny M A (choose src n) Q E s := by
  intro Γ p hΓ
  unfold choose
  rw [Sem.wp_choose]
  refine ⟨h, ?_⟩
  exact wpAny_pure (M := M) (A := A) (E := E) (q _ _ (Nat.mod_lt _ (Nat.pos_of_ne_zero h))) Γ p hΓ
theorem wp_draw {α : Type} : ∀ {n : Nat} {xs : List α} {s : Shared} {Q : List α → Shared → Prop}, xs.length ≤ n → (∀ ys d', ys.Perm xs → Q ys { heap := s.heap, gens := s.gens, drawn := d', toks := s.toks, os := s.os }) → wpAny M A (drawOrder n xs) Q E s
  | 0, xs, s, Q, h, q => by
    have : xs = [] := List.eq_nil_of_length_eq_zero (by omega)
    subst this
    rw [drawOrder.eq_1]
    exact wpAny_pure (q [] s.drawn (.refl _))
  | n + 1, [], s, Q, h, q => by
    rw [drawOrder.eq_2 (n + 1) (Nat.succ_ne_zero n)]
    exact wpAny_pure (q [] s.drawn (.refl _))
  | n + 1, x :: xs, s, Q, h, q => by
    rw [drawOrder.eq_3 (x :: xs) n (List.cons_ne_nil _ _)]
    refine wpAny_bind (wp_choose (by simp) fun i d' hi => ?_)
    rw [List.getElem?_eq_getElem hi]
    dsimp only
    refine wpAny_bind (wp_draw (n := n) (by rw [List.length_eraseIdx_of_lt hi]; rw [List.length_cons] at h ⊢; omega) fun ys d2 pm => ?_)
    exact wpAny_pure (q _ d2 ((pm.cons _).trans (erase_perm hi)))
end
section
variable {prog : Program} {w : World} {K : Type} [DecidableEq K] {knd : PySem.KeyKind prog w K} {A : Around} {E : Value → Shared → Prop} {s : Shared} {a l : Addr} {S : K → Bool} {n : Nat}
structure Els (knd : PySem.KeyKind prog w K) (es : List (Int × Value)) (S : K → Bool) (n : Nat) : Prop where
  el : ElemsOf knd es
  mem : ∀ k, S k = true ↔ ∃ e, e ∈ es ∧ knd.is k e.snd = true
  len : es.length = n
theorem Els.perm {es es' : List (Int × Value)} (h : Els knd es S n) (p : es'.Perm es) : Els knd es' S n :=
  ⟨h.el.perm p, fun k => (h.mem k).trans ⟨fun ⟨e, m, i⟩ => ⟨e, p.mem_iff.mpr m, i⟩, fun ⟨e, m, i⟩ => ⟨e, p.mem_iff.mp m, i⟩⟩, p.length_eq.trans h.len⟩
theorem wp_setWalk {Q : Array (Int × Value) → Shared → Prop} (h : SetL knd s.heap a S n (ldW w))
    (q : ∀ es d', Els knd es.toList S n → Q es { heap := s.heap, gens := s.gens, drawn := d', toks := s.toks, os := s.os }) : wpAny (model prog w) A (setWalk a) Q E s := by
  obtain ⟨o, es, ep, t, h1, h2, h3, h4, h5, h6, h7, h8, h9, h10⟩ := h
  have el : Els knd es.toList S n := ⟨h4, h5, by rw [Array.length_toList]; exact h8⟩
  unfold setWalk
  refine wpAny_bind (wpAny_setState_of h1 h3 h7 ?_)
  dsimp only
  refine wpAny_bind ?_
  unfold setsByText
  refine wpAny_bind (wpAny_askSetting (wpAny_pure ?_))
  refine (?_ : wpAny _ _ (ite (w.params.followText "set-order" = true) _ _) _ _ _)
  by_cases c : w.params.followText "set-order" = true
  · rw [if_pos c]
    refine wpAny_bind (wpAny_askSetting (wpAny_pure ?_))
    exact q _ s.drawn (el.perm pick_perm)
  · rw [if_neg c]
    have hb : t.led = true := by rw [h9]; unfold ldW; simpa using c
    by_cases d : (!t.plain && decide (es.size > 1)) = true
    · refine (?_ : wpAny _ _ (ite ((!t.plain && decide (es.size > 1)) = true) (bind (drawOrder es.size es.toList) fun r => pure r.toArray) _) _ _ _)
      rw [if_pos d]
      refine wpAny_bind (wp_draw (by simp) fun ys d' pm => ?_)
      exact wpAny_pure (q _ d' (el.perm (by simpa using pm)))
    · refine (?_ : wpAny _ _ (ite ((!t.plain && decide (es.size > 1)) = true) _ (bind (ite ((!t.led && decide (es.size > 1)) = true) (unsupported "set:maker-not-led") (pure ())) fun _ => pure es)) _ _ _)
      rw [if_neg d, if_neg (by rw [hb]; simp)]
      refine wpAny_bind (wpAny_pure ?_)
      exact wpAny_pure (q _ s.drawn el)
end
end ST

namespace ST
open PySem PyProof.Rows
theorem perm_of {α : Type} [DecidableEq α] : ∀ {D ks : List α}, D.Nodup → (∀ k ∈ D, k ∈ ks) → ks.length = D.length → D.Perm ks
  | [], ks, _, _, l => by cases ks with | nil => exact .nil | cons x y => simp at l
  | d :: D, ks, nd, sub, l => by
    have m : d ∈ ks := sub d (by simp)
    have p := List.perm_cons_erase m
    have nd' := List.nodup_cons.mp nd
    refine (List.Perm.cons d (perm_of nd'.2 (fun k hk => ?_) ?_)).trans p.symm
    · have hk' : k ∈ d :: ks.erase d := p.mem_iff.mp (sub k (List.mem_cons_of_mem _ hk))
      rcases List.mem_cons.mp hk' with e | e
      · exact absurd (e ▸ hk) nd'.1
      · exact e
    · have := p.length_eq
      simp at this l
      rw [List.length_erase_of_mem m]; omega
section
variable {prog : Program} {w : World} {K : Type} [DecidableEq K] {knd : PySem.KeyKind prog w K} {A : Around} {E : Value → Shared → Prop} {s : Shared} {a l : Addr} {D D2 : List K} {b : Bool}
structure SetD (knd : PySem.KeyKind prog w K) (h : Heap) (a : Addr) (D : List K) (b : Bool) : Prop where
  set : SetL knd h a (fun k => decide (k ∈ D)) D.length b
  nd : D.Nodup
def addK (D : List K) (k : K) : List K := if k ∈ D then D else D ++ [k]
theorem addK_mem {k x : K} : x ∈ addK D k ↔ x ∈ D ∨ x = k := by
  unfold addK
  split
  · next h => exact ⟨.inl, fun z => z.elim id fun e => e ▸ h⟩
  · simp
theorem addK_nd {k : K} (h : D.Nodup) : (addK D k).Nodup := by
  unfold addK
  split
  · exact h
  · next c => exact List.nodup_append.mpr ⟨h, by simp, fun x hx y hy z => c (by rw [← List.mem_singleton.mp hy, ← z]; exact hx)⟩
theorem addK_len {k : K} : (addK D k).length = if k ∈ D then D.length else D.length + 1 := by
  unfold addK
  split
  · rfl
  · rw [List.length_append]; rfl
theorem SetD.add {k : K} {x : Value} {Q : Bool → Shared → Prop} (ik : knd.is k x = true) (sc : x.scannable = true) (hs : SetD knd s.heap a D b) (hn : D.length + 1 < scanBound)
    (q : ∀ h' r, Heap.SameBut a s.heap h' → SetD knd h' a (addK D k) b → Q r { heap := h', gens := s.gens, drawn := s.drawn, toks := s.toks, os := s.os }) : wpAny (model prog w) A (setAddHashed a x (knd.hash k)) Q E s := by
  refine wp_add ik sc hs.set hn fun h' sb h2 => q h' _ sb ⟨?_, addK_nd hs.nd⟩
  have e1 : (fun k' => decide (k' ∈ addK D k)) = fun k' => decide (k' ∈ D) || decide (k' = k) := by
    funext x
    rw [Bool.eq_iff_iff]
    simp [addK_mem]
  rw [e1, addK_len]
  simpa using h2
theorem Els.keys {es : List (Int × Value)} (h : Els knd es (fun k => decide (k ∈ D)) D.length) (nd : D.Nodup) : ∃ ks : List K, ks.Perm D ∧ ks.length = es.length ∧ ∀ (i : Nat) k e, ks[i]? = some k → es[i]? = some e → knd.is k e.2 = true ∧ e.1 = knd.hash k ∧ e.2.scannable = true := by
  have ch : ∀ e : {e // e ∈ es}, ∃ k, knd.is k e.1.2 = true ∧ e.1.1 = knd.hash k := fun e => (h.el e.1 e.2).1
  refine ⟨es.attach.map fun e => Classical.choose (ch e), ?_, by simp, fun i k e h1 h2 => ?_⟩
  · have sub : ∀ k ∈ D, k ∈ es.attach.map fun e => Classical.choose (ch e) := fun k hk => by
      obtain ⟨e, m, i⟩ := (h.mem k).mp (by simpa using hk)
      refine List.mem_map.mpr ⟨⟨e, m⟩, List.mem_attach _ _, ?_⟩
      exact knd.inj _ _ _ (Classical.choose_spec (ch ⟨e, m⟩)).1 i
    have := perm_of nd sub (by simp [h.len])
    exact this.symm
  · have il := (List.getElem?_eq_some_iff.mp h2).1
    have ea : es.attach[i]? = some ⟨e, List.mem_of_getElem? h2⟩ := by
      rw [List.getElem?_attach]
      simp [h2]
    rw [List.getElem?_map, ea] at h1
    cases h1
    have := Classical.choose_spec (ch ⟨e, List.mem_of_getElem? h2⟩)
    exact ⟨this.1, this.2, (h.el e (List.mem_of_getElem? h2)).2⟩
end
end ST

namespace ST
open PySem PyProof.Rows
section
variable {prog : Program} {w : World} {K : Type} [DecidableEq K] {knd : PySem.KeyKind prog w K} {A : Around} {E : Value → Shared → Prop} {s : Shared} {a l : Addr} {S S2 : K → Bool} {n n2 : Nat} {b : Bool}
theorem wp_forIn_arr {M : Model} {α β : Type} {es : Array α} {b : β} {f : α → β → Sem (ForInStep β)} (I : List α → β → Shared → Prop) (Q : β → Shared → Prop)
    (h : ∀ (x : α) (rest : List α) (b : β) (s : Shared), I (x :: rest) b s → wpAny M A (f x b) (fun r s' => match r with | ForInStep.yield b' => I rest b' s' | ForInStep.done b' => Q b' s') E s)
    (e : ∀ (b : β) (s : Shared), I [] b s → Q b s) (h0 : I es.toList b s) : wpAny M A (forIn es b f) Q E s := by
  rw [← Array.forIn_toList]
  exact wpAny_forIn_list f I Q h e _ _ h0
theorem wp_quietOne {Q : Option Bool × Unit → Shared → Prop} {es : Array (Int × Value)} (el : ∀ e ∈ es.toList, e.2.scannable = true) (q : Q (none, ()) s) :
    wpAny (model prog w) A (forIn es ((none, ()) : Option Bool × Unit) fun x __s =>
              match x with
              | (fst, x) =>
                match x with
                | Value.ref a => do
                  let __do_lift ← specialOf x (Str.ofString "__eq__")
                  if (__do_lift != some (Value.builtin "object.__eq__")) = true then
                      pure (ForInStep.done (some false, ()))
                    else pure (ForInStep.yield (none, ()))
                | x => pure (ForInStep.yield (none, ()))) Q E s := by
  refine wp_forIn_arr (fun r b s' => (∀ e ∈ r, e.2.scannable = true) ∧ b = (none, ()) ∧ s' = s) Q (fun x rest b s' h => ?_) (fun b s' h => by rw [h.2.1, h.2.2]; exact q) ⟨el, rfl, rfl⟩
  obtain ⟨h1, rfl, rfl⟩ := h
  obtain ⟨i, x⟩ := x
  have sc := h1 _ (List.mem_cons_self ..)
  dsimp only at sc ⊢
  cases x with
  | ref r => cases sc
  | _ => exact wpAny_pure ⟨fun e m => h1 e (List.mem_cons_of_mem _ m), rfl, rfl⟩
theorem wp_quiet {Q : Bool → Shared → Prop} {ls : List Addr} (h : ∀ a ∈ ls, ∃ S n b, SetL knd s.heap a S n b) (q : Q true s) : wpAny (model prog w) A (setsQuiet ls) Q E s := by
  unfold setsQuiet
  refine wpAny_bind (wpAny_forIn_list _ (fun r b s' => (∀ a ∈ r, ∃ S n b, SetL knd s.heap a S n b) ∧ b = (none, ()) ∧ s' = s) _ (fun x rest b s' h => ?_) (fun b s' h => by rw [h.2.1, h.2.2]; exact wpAny_pure q) _ _ ⟨h, rfl, rfl⟩)
  obtain ⟨h1, rfl, rfl⟩ := h
  obtain ⟨S, n, b, o, es, ep, t, g1, g2, g3, g4, g5, g6, g7, _⟩ := h1 x (List.mem_cons_self ..)
  unfold setEntries
  refine wpAny_bind (wpAny_bind (wpAny_setState_of g1 g3 g7 (wpAny_pure ?_)))
  refine wpAny_bind (wp_quietOne (fun e m => (g4 e m).2) ?_)
  exact wpAny_pure ⟨fun a m => h1 a (List.mem_cons_of_mem _ m), rfl, rfl⟩
theorem wp_unseen {Q : Array (Int × Value) → Shared → Prop} (h : SetL knd s.heap l S2 n2 (ldW w)) (hs : SetL knd s.heap a S n (ldW w))
    (q : ∀ es h' d', Els knd es.toList S2 n2 → Heap.SameBut a s.heap h' → SetL knd h' a S n (ldW w) → Q es { heap := h', gens := s.gens, drawn := d', toks := s.toks, os := s.os }) :
    wpAny (model prog w) A (setWalkUnseen l [a] (some a)) Q E s := by
  have wk : wpAny (model prog w) A (setWalk l) Q E s := wp_setWalk h fun es d' el => q es s.heap d' el (Heap.SameBut.refl ..) hs
  have h0 := h
  obtain ⟨o, es, ep, t, h1, h2, h3, h4, h5, h6, h7, h8, h9, h10⟩ := h
  have el : Els knd es.toList S2 n2 := ⟨h4, h5, by rw [Array.length_toList]; exact h8⟩
  unfold setWalkUnseen
  refine wpAny_bind (wpAny_setState_of h1 h3 h7 ?_)
  dsimp only
  unfold setsByText
  refine wpAny_bind (wpAny_bind (wpAny_askSetting (wpAny_pure ?_)))
  refine wpAny_ite_split (fun _ => wk) fun _ => ?_
  refine wpAny_bind (wp_quiet (knd := knd) (fun x m => ?_) ?_)
  · rcases List.mem_cons.mp m with rfl | m
    · exact ⟨_, _, _, h0⟩
    · rw [List.mem_singleton.mp m]; exact ⟨_, _, _, hs⟩
  refine wpAny_ite_split (fun z => absurd z (by decide)) fun _ => ?_
  refine wpAny_bind (wpAny_rule ?_)
  obtain ⟨o', es', ep', t', g1, g2, g3, g4, g5, g6, g7, g8, g9, g10⟩ := id hs
  refine wpAny_bind (wpAny_setState_of g1 g3 g7 ?_)
  dsimp only
  refine wpAny_ite_split (fun _ => ?_) fun _ => ?_
  · refine wpAny_bind (wpAny_storeSet_of g1 g3 ?_ (by rw [sizeLine_eq]; have : scanBound = 4096 := rfl; omega))
    refine wpAny_pure (q es _ s.drawn el (Heap.SameBut.update ..) ?_)
    have st := (SetL.store (knd := knd) g1 g2 g3 (es' := es') (S' := S) (t' := { mask := t'.mask, place := t'.place, dummies := t'.dummies, finger := t'.finger, led := t'.led && t.led, moves := t'.moves, plain := t'.plain && t.plain }) g4 g5 g6 g7 g10).2
    have lb : (t'.led && t.led) = ldW w := by rw [g9, h9, Bool.and_self]
    rw [g8] at st
    have st : SetL knd _ a S n (t'.led && t.led) := st
    exact lb ▸ st
  · exact wpAny_pure (q es s.heap s.drawn el (Heap.SameBut.refl ..) hs)
end
end ST

namespace ST
open PySem PyProof.Rows
section
variable {prog : Program} {w : World} {K : Type} [DecidableEq K] {knd : PySem.KeyKind prog w K} {A : Around} {E : Value → Shared → Prop} {s : Shared} {a l : Addr} {D D2 : List K} {b : Bool}
theorem wp_mergeN {each : Sem Unit} {Q : Unit → Shared → Prop} (ha : SetD knd s.heap a D (ldW w)) (hl : SetD knd s.heap l D2 (ldW w)) (ne : a ≠ l) (h0 : D ≠ []) (hn : D.length + D2.length < 128)
    (he : ∀ (s' : Shared) {Q' : Unit → Shared → Prop}, s'.heap.get? l = s.heap.get? l → Q' () s' → wpAny (model prog w) A each Q' E s')
    (q : ∀ h' d' D', Heap.SameBut a s.heap h' → SetD knd h' a D' (ldW w) → (∀ x, x ∈ D' ↔ x ∈ D ∨ x ∈ D2) → Q () { heap := h', gens := s.gens, drawn := d', toks := s.toks, os := s.os }) :
    wpAny (model prog w) A (setMerge a l each) Q E s := by
  obtain ⟨ol, esl, epl, tl, l1, l2, l3, l4, l5, l6, l7, l8, l9, l10⟩ := id hl.set
  unfold setMerge
  rw [if_neg (by simpa using ne)]
  refine wpAny_bind (wpAny_setState_of l1 l3 l7 ?_)
  dsimp only
  by_cases z : esl.isEmpty = true
  · rw [if_pos z]
    refine wpAny_pure (q _ s.drawn D (Heap.SameBut.refl ..) ha fun x => ⟨.inl, fun c => c.elim id fun m => ?_⟩)
    have e0 : esl = #[] := by simpa using z
    rw [e0] at l8
    have : D2 = [] := List.eq_nil_of_length_eq_zero l8.symm
    rw [this] at m; cases m
  rw [if_neg z]
  have lt1 : D2.length = esl.size := l8.symm
  refine wpAny_bind (wp_roomFor ha.set (by omega) fun h' sb hs => ?_)
  obtain ⟨o, es, ep, t, h1, h2, h3, h4, h5, h6, h7, h8, h9, h10⟩ := id hs
  refine wpAny_bind (wpAny_setState_of h1 h3 h7 ?_)
  dsimp only
  have rd : t.road tl = .oneByOne := by
    unfold SetTable.road
    rw [if_pos]
    unfold SetTable.fits at h7
    rw [Bool.and_eq_true, beq_iff_eq] at h7
    unfold SetTable.fill
    rw [h7.1, h8]
    have : D.length ≠ 0 := fun c => h0 (List.eq_nil_of_length_eq_zero c)
    rw [bne_iff_ne]
    exact fun c => this (Nat.eq_zero_of_add_eq_zero_right c)
  rw [rd]
  dsimp only
  have gl : ∀ {h2 : Heap}, Heap.SameBut a s.heap h2 → h2.get? l = s.heap.get? l := fun sb2 => sb2.2 l (Ne.symm ne)
  have hl1 : SetL knd h' l (fun k => decide (k ∈ D2)) D2.length (ldW w) := hl.set.keep (gl sb)
  refine wpAny_bind (wp_unseen (s := { heap := h', gens := s.gens, drawn := s.drawn, toks := s.toks, os := s.os }) hl1 hs fun es2 h2' d' el sb2 hs2 => ?_)
  obtain ⟨ks, pm, kl, ke⟩ := el.keys hl.nd
  have sbb := sb.trans sb2
  refine wpAny_bind (wp_forIn_arr (fun r _ s' => ∃ (i : Nat) (h3 : Heap) (D' : List K), r = es2.toList.drop i ∧ i ≤ es2.size ∧ Heap.SameBut a s.heap h3 ∧ SetD knd h3 a D' (ldW w) ∧ (∀ x, x ∈ D' ↔ x ∈ D ∨ x ∈ ks.take i) ∧ D'.length ≤ D.length + i ∧ s' = { heap := h3, gens := s.gens, drawn := d', toks := s.toks, os := s.os }) _ (fun x rest u s' h => ?_) (fun u s' h => ?_) ⟨0, h2', D, rfl, Nat.zero_le _, sbb, ⟨hs2, ha.nd⟩, fun x => by simp, by omega, rfl⟩)
  · obtain ⟨i, h3, D', er, il, sb3, sd, mem, len, rfl⟩ := h
    have il' : i < es2.toList.length := by
      by_cases c : i < es2.toList.length
      · exact c
      · rw [List.drop_of_length_le (by omega)] at er; cases er
    have ex : es2.toList[i]? = some x := by
      rw [List.drop_eq_getElem_cons il'] at er
      rw [(List.cons.inj er).1, List.getElem?_eq_getElem il']
    have erest : rest = es2.toList.drop (i + 1) := by
      rw [List.drop_eq_getElem_cons il'] at er
      exact (List.cons.inj er).2
    have kil : i < ks.length := by rw [kl]; exact il'
    obtain ⟨k1, k2, k3⟩ := ke i ks[i] x (List.getElem?_eq_getElem kil) ex
    obtain ⟨hx, x⟩ := x
    dsimp only at k1 k2 k3 ⊢
    rw [k2]
    have e2n : es2.toList.length = D2.length := el.len
    refine wpAny_bind (wpAny_holding (SetD.add k1 k3 sd (by have : scanBound = 4096 := rfl; omega) fun h4 r sb4 sd4 => ?_))
    have sb34 := sb3.trans sb4
    refine wpAny_bind (he _ (gl sb34) ?_)
    refine wpAny_bind (wpAny_setState_of (s := { heap := h4, gens := s.gens, drawn := d', toks := s.toks, os := s.os }) ((gl sb34).trans l1) l3 l7 ?_)
    dsimp only
    rw [if_neg (by simp)]
    refine wpAny_pure ⟨i + 1, h4, addK D' ks[i], erest, by rw [Array.length_toList] at il'; omega, sb34, sd4, fun y => ?_, ?_, rfl⟩
    · rw [addK_mem, mem, List.take_succ_eq_append_getElem kil, List.mem_append, List.mem_singleton, or_assoc]
    · rw [addK_len]; split <;> omega
  · obtain ⟨i, h3, D', er, il, sb3, sd, mem, len, rfl⟩ := h
    have ie : es2.toList.length ≤ i := by
      have := congrArg List.length er
      rw [List.length_drop] at this
      simp only [List.length_nil] at this
      omega
    refine wpAny_pure (q h3 d' D' sb3 sd fun x => ?_)
    rw [mem, List.take_of_length_le (by rw [kl]; exact ie), pm.mem_iff]
end
end ST

namespace ST
open PySem PyProof.Rows
section
variable {prog : Program} {w : World} {K : Type} [DecidableEq K] {knd : PySem.KeyKind prog w K} {A : Around} {E : Value → Shared → Prop} {s : Shared} {a l r : Addr} {D D2 : List K} {b : Bool}
theorem SetD.keep {h h' : Heap} (H : SetD knd h a D b) (k : h'.get? a = h.get? a) : SetD knd h' a D b := ⟨H.set.keep k, H.nd⟩
theorem SetD.kept {h h' : Heap} (H : SetD knd h a D b) (k : ∀ (b : Nat) (o : Obj), h.get? b = some o → h'.get? b = some o) : SetD knd h' a D b := by
  refine H.keep ?_
  obtain ⟨o, _, _, _, e, _⟩ := H.set
  rw [e, k _ _ e]
theorem SetD.typeIs (h : SetD knd s.heap a D b) : s.TypeIs (Value.ref a) "set" := h.set.typeIs
theorem wp_epoch {Q : Nat → Shared → Prop} (h : SetD knd s.heap a D b) (q : ∀ o es ep t, s.heap.get? a = some o → o.data = Data.set es ep t → t.fits es.size = true → Q ep s) : wpAny (model prog w) A (setEpoch a) Q E s := by
  obtain ⟨o, es, ep, t, h1, h2, h3, h4, h5, h6, h7, h8, h9⟩ := h.set
  unfold setEpoch
  exact wpAny_bind (wpAny_setState_of h1 h3 h7 (wpAny_pure (q o es ep t h1 h3 h7)))
theorem wp_anySet {Q : Bool → Shared → Prop} (h : SetD knd s.heap a D b) (q : Q true s) : wpAny (model prog w) A (Builtin.Frozenset.isAnySet (.ref a)) Q E s := by
  unfold Builtin.Frozenset.isAnySet
  refine (?_ : wpAny _ _ (bind (isInstance (Value.ref a) (Value.type "set")) _) _ _ _)
  refine wpAny_bind (wpAny_isInstance h.typeIs sub_set_self ?_)
  exact wpAny_pure q
theorem wp_copy {Q : Value → Shared → Prop} (hl : SetD knd s.heap l D (ldW w)) (hn : D.length < 128)
    (q : ∀ h', (∀ (b : Nat) (o : Obj), s.heap.get? b = some o → h'.get? b = some o) → h'.objs.size = s.heap.objs.size + 1 → SetD knd h' s.heap.objs.size D (ldW w) →
      (D = [] → h'.get? s.heap.objs.size = some { cls := Value.type "set", data := Data.set #[] 0 (SetTable.fresh 0 0 (ldW w)) }) → Q (.ref s.heap.objs.size) { heap := h', gens := s.gens, drawn := s.drawn, toks := s.toks, os := s.os }) :
    wpAny (model prog w) A (Builtin.Frozenset.copyOf l) Q E s := by
  by_cases c : D = []
  · have hl' := hl.set
    obtain ⟨o, es, ep, t, h1, h2, h3, h4, h5, h6, h7, h8, h9⟩ := id hl'
    unfold Builtin.Frozenset.copyOf Builtin.Frozenset.baseOf
    refine wpAny_bind (wpAny_bind (wpAny_isInstance hl'.typeIs sub_set_self (wpAny_pure ?_)))
    rw [if_pos rfl]
    refine wpAny_bind (wp_newSet ?_)
    refine wpAny_bind (wpAny_pure ?_)
    have g1 : (s.heap.push { cls := Value.type "set", data := Data.set #[] 0 (SetTable.fresh 0 0 (ldW w)) }).get? s.heap.objs.size = some { cls := Value.type "set", data := Data.set #[] 0 (SetTable.fresh 0 0 (ldW w)) } := Heap.get?_push_size _ rfl
    refine wpAny_bind ?_
    unfold setMerge
    rw [if_neg (by rw [beq_iff_eq]; exact Nat.ne_of_gt hl'.lt)]
    refine wpAny_bind (wpAny_setState_of (Heap.get?_push_of_some _ h1) h3 h7 ?_)
    dsimp only
    rw [c] at h8
    have e0 : es = #[] := Array.eq_empty_of_size_eq_zero h8
    rw [if_pos (by rw [e0]; rfl)]
    refine wpAny_pure ?_
    refine wpAny_pure (q _ (fun b o e => Heap.get?_push_of_some _ e) (Heap.size_push ..) ⟨?_, hl.nd⟩ fun _ => g1)
    rw [c]
    exact ⟨_, #[], 0, _, g1, ⟨rfl, rfl, rfl⟩, rfl, fun e m => by simp at m, fun k => by simp, by decide, rfl, rfl, rfl, List.Pairwise.nil⟩
  · exact wp_copyOf hl.set hn fun h' k z S => q h' k z ⟨S, hl.nd⟩ fun e => absurd e c
theorem wp_upset {id : String} {Q : Unit → Shared → Prop} (ha : SetD knd s.heap a D (ldW w)) (hf : D = [] → s.heap.get? a = some { cls := Value.type "set", data := Data.set #[] 0 (SetTable.fresh 0 0 (ldW w)) })
    (hl : SetD knd s.heap l D2 (ldW w)) (ne : a ≠ l) (hn : D.length + D2.length < 128)
    (q : ∀ h' d' D', Heap.SameBut a s.heap h' → SetD knd h' a D' (ldW w) → (∀ x, x ∈ D' ↔ x ∈ D ∨ x ∈ D2) → Q () { heap := h', gens := s.gens, drawn := d', toks := s.toks, os := s.os }) :
    wpAny (model prog w) A (Builtin.Frozenset.updateFrom id a (.ref l)) Q E s := by
  unfold Builtin.Frozenset.updateFrom
  refine wpAny_bind (wp_anySet hl ?_)
  rw [if_pos rfl]
  refine wpAny_bind (wpAny_pure ?_)
  unfold Builtin.Frozenset.merge
  refine wpAny_bind (wp_epoch hl fun o es ep t g1 g2 g3 => ?_)
  by_cases c : D = []
  · refine wp_merge0 (hf c) hl.set ne (by omega) fun h' sb S => q h' s.drawn D2 sb ⟨S, hl.nd⟩ fun x => ?_
    rw [c]; simp
  · refine wp_mergeN ha hl ne c hn (fun s' Q' e hq => ?_) q
    unfold Builtin.Frozenset.unchanged setEpoch
    refine wpAny_bind (wpAny_bind (wpAny_setState_of (e.trans g1) g2 g3 (wpAny_pure ?_)))
    rw [if_neg (by simp)]
    exact wpAny_pure hq
end
end ST

namespace ST
open PySem PyProof.Rows
theorem entry_set_or : entryFor table "set.__or__" = some Builtin.«frozenset.__or__» :=
  entryFor_alias (id' := "frozenset.__or__") (by kernel_rfl) rfl (by decide +kernel) (by kernel_rfl)
section
variable {prog : Program} {w : World} {K : Type} [DecidableEq K] {knd : PySem.KeyKind prog w K} {A : Around} {E : Value → Shared → Prop} {s : Shared} {a l r : Addr} {D D2 : List K} {b : Bool}
theorem wp_or {Q : Value → Shared → Prop} (hl : SetD knd s.heap l D (ldW w)) (hr : SetD knd s.heap r D2 (ldW w)) (hn : D.length + D2.length < 128)
    (q : ∀ h' d' D', (∀ (b : Nat) (o : Obj), s.heap.get? b = some o → h'.get? b = some o) → h'.objs.size = s.heap.objs.size + 1 → SetD knd h' s.heap.objs.size D' (ldW w) → (∀ x, x ∈ D' ↔ x ∈ D ∨ x ∈ D2) →
      Q (.ref s.heap.objs.size) { heap := h', gens := s.gens, drawn := d', toks := s.toks, os := s.os }) :
    wpAny (model prog w) A (binaryOp .BitOr (.ref l) (.ref r)) Q E s := by
  refine wpAny_binaryOp_same hl.typeIs hr.typeIs F.fills_set_or F.slot_set_or (wpAny_call_entry F.slot_set_or hl.typeIs entry_set_or ?_ (F.args_set_or_2 _ _))
  unfold Builtin.«frozenset.__or__»
  wp_delta
  refine wpAny_bind (wpAny_pure ?_)
  dsimp only
  rw [if_neg (by decide)]
  dsimp only
  refine wpAny_bind ?_
  refine (?_ : wpAny _ _ (bind (Builtin.Frozenset.isAnySet (Value.ref l)) _) _ _ _)
  refine wpAny_bind (wp_anySet hl ?_)
  refine wp_anySet hr ?_
  rw [if_neg (by decide)]
  refine wpAny_bind (wpAny_pure ?_)
  refine wpAny_bind ?_
  wp_delta
  refine wpAny_bind (wp_copy hl (by omega) fun h1 k1 z1 S1 f1 => ?_)
  have nl : s.heap.objs.size ≠ l := Nat.ne_of_gt hl.set.lt
  have nr : s.heap.objs.size ≠ r := Nat.ne_of_gt hr.set.lt
  by_cases c : r = l
  · subst c
    rw [if_neg (by simp)]
    refine wpAny_pure (wpAny_pure ⟨_, rfl, by simp, q h1 s.drawn D k1 z1 S1 fun x => ?_⟩)
    have : ∀ x, x ∈ D ↔ x ∈ D2 := fun x => by
      obtain ⟨o, es, ep, t, h1, h2, h3, h4, h5, h6, h7, h8⟩ := hl.set
      obtain ⟨o', es', ep', t', g1, g2, g3, g4, g5, g6, g7, g8⟩ := hr.set
      rw [h1] at g1; cases g1
      rw [h3] at g3; cases g3
      have := (h5 x).trans (g5 x).symm
      simpa using this
    rw [← this]; simp
  · rw [if_pos (by simpa using c)]
    refine wpAny_bind (wpAny_pure ?_)
    refine wpAny_bind (wpAny_holding (wp_upset (s := { heap := h1, gens := s.gens, drawn := s.drawn, toks := s.toks, os := s.os }) S1 f1 (hr.kept k1) nr hn fun h2 d2 D' sb S2 mm => ?_))
    refine wpAny_pure (wpAny_pure ⟨_, rfl, by simp, q h2 d2 D' (fun b o e => ?_) (sb.1.trans z1) S2 mm⟩)
    rw [sb.2 b (Nat.ne_of_lt (Heap.lt_size e))]
    exact k1 b o e
end
end ST

namespace ST
open PySem PyProof.Rows
theorem slot_si_next : Slot "set_iterator" "__next__" "set_iterator.__next__" :=
  .of (owner := "set_iterator") (n := "__next__") (by rw [typeLookup_type, builtinLookup_eq_fast]; kernel_rfl) (by decide +kernel) (by decide +kernel) (by decide +kernel)
    (by first | exact .inl (by decide +kernel) | exact .inr (by decide +kernel)) (by rw [isSubtype_type]; kernel_rfl)
theorem slot_si_iter : Slot "set_iterator" "__iter__" "set_iterator.__iter__" :=
  .of (owner := "set_iterator") (n := "__iter__") (by rw [typeLookup_type, builtinLookup_eq_fast]; kernel_rfl) (by decide +kernel) (by decide +kernel) (by decide +kernel)
    (by first | exact .inl (by decide +kernel) | exact .inr (by decide +kernel)) (by rw [isSubtype_type]; kernel_rfl)
theorem entry_si_next : entryFor table "set_iterator.__next__" = some Builtin.«set_iterator.__next__» := entryFor_of_tree (by kernel_rfl)
theorem entry_si_iter : entryFor table "set_iterator.__iter__" = some Builtin.«dict_keyiterator.__iter__» :=
  entryFor_alias (id' := "dict_keyiterator.__iter__") (by kernel_rfl) rfl (by decide +kernel) (by kernel_rfl)
theorem entry_set_iter : entryFor table "set.__iter__" = some Builtin.«frozenset.__iter__» :=
  entryFor_alias (id' := "frozenset.__iter__") (by kernel_rfl) rfl (by decide +kernel) (by kernel_rfl)
theorem owner_si : Manifest.owners.lookup (String.ofList "set_iterator".toList.reverse.reverse) = some Manifest.sig_set_iterator := by kernel_rfl
theorem args_si_next (a : Value) : argsOk "set_iterator.__next__" ⟨[a], []⟩ := by
  unfold argsOk; rw [signature?_of (id := "set_iterator.__next__") (n := ['_', '_', 't', 'x', 'e', 'n', '_', '_']) (o := ['r', 'o', 't', 'a', 'r', 'e', 't', 'i', '_', 't', 'e', 's']) (by kernel_rfl) owner_si]; kernel_rfl
theorem args_si_iter (a : Value) : argsOk "set_iterator.__iter__" ⟨[a], []⟩ := by
  unfold argsOk; rw [signature?_of (id := "set_iterator.__iter__") (n := ['_', '_', 'r', 'e', 't', 'i', '_', '_']) (o := ['r', 'o', 't', 'a', 'r', 'e', 't', 'i', '_', 't', 'e', 's']) (by kernel_rfl) owner_si]; kernel_rfl
def ItAt (h : Heap) (it a : Addr) (first : Value) (i n ep : Nat) : Prop := ∃ o, h.get? it = some o ∧ o.cls = .type "set_iterator" ∧ o.data = .fields #[first, .int i 0, .ref a, .int n 0, .int ep 0]
def StAt (h : Heap) (a : Addr) (es : Array (Int × Value)) (ep : Nat) (t : SetTable) : Prop := ∃ o, h.get? a = some o ∧ o.ExactSet ∧ o.data = .set es ep t ∧ t.fits es.size = true
section
variable {prog : Program} {w : World} {A : Around} {E : Value → Shared → Prop} {s : Shared} {a it : Addr} {es : Array (Int × Value)} {ep i : Nat} {t : SetTable} {first x : Value} {Q : Option Value → Shared → Prop}
theorem ItAt.typeIs (h : ItAt s.heap it a first i es.size ep) : s.TypeIs (.ref it) "set_iterator" := let ⟨o, ho, hc, _⟩ := h; ⟨o, ho, hc⟩
theorem wp_nextI {slot nx : Nat} (hi : ItAt s.heap it a (.int slot 0) i es.size ep) (hs : StAt s.heap a es ep t)
    (h : ∀ (A' : Around) (E' : Value → Shared → Prop) (Q' : Option (Value × Nat) → Shared → Prop), Q' (some (x, nx)) s → wpAny (model prog w) A' (setNext a slot i ep) Q' E' s)
    (q : ∀ h', ItAt h' it a (.int nx 0) (i + 1) es.size ep → Heap.SameBut it s.heap h' → Q (some x) { s with heap := h' }) : wpAny (model prog w) A (pyNext (.ref it)) Q E s := by
  obtain ⟨o, ho, hc, hd⟩ := id hi
  obtain ⟨os, ho', hx, hd', hf⟩ := hs
  unfold pyNext
  refine wpAny_bind (wpAny_attempt (wpAny_callSpecial?_slot (name := Str.ofString "__next__") hi.typeIs slot_si_next
    (wpAny_call_entry slot_si_next hi.typeIs entry_si_next ?_ (args_si_next _))))
  unfold Builtin.«set_iterator.__next__»
  refine wpAny_bind (wpAny_pure ?_)
  refine wpAny_bind (wpAny_fieldsOf ho hd ?_)
  dsimp only
  refine wpAny_bind (wpAny_setEntries_of ho' hd' hf ?_)
  rw [if_neg (by simp)]
  simp only [Int.toNat_natCast]
  refine wpAny_bind (h _ _ _ ?_)
  dsimp only
  refine wpAny_bind (wpAny_setField ho hd (by simp) ?_)
  have g1 := Heap.get?_update_self (Obj.mapFields (·.setIfInBounds 0 (rawInt (nx : Int)))) ho (Obj.isFreed_of_fields (Obj.data_mapFields hd _))
  refine wpAny_bind (wpAny_setField g1 (Obj.data_mapFields hd _) (by simp) ?_)
  have g2 := Heap.get?_update_self (Obj.mapFields (·.setIfInBounds 1 (rawInt ((i : Int) + 1)))) g1 (Obj.isFreed_of_fields (Obj.data_mapFields (Obj.data_mapFields hd _) _))
  refine wpAny_pure ⟨_, rfl, wpAny_pure (q _ ⟨_, g2, (Obj.cls_mapFields ..).trans ((Obj.cls_mapFields ..).trans hc), ?_⟩ ((Heap.SameBut.update ..).trans (Heap.SameBut.update ..)))⟩
  rw [Obj.data_mapFields (Obj.data_mapFields hd _)]
  simp [rawInt]
theorem stop_end (hh : A.handled = none) {s0 : Shared} (q : ∀ h', (∀ b o, s0.heap.get? b = some o → h'.get? b = some o) → Q none { s0 with heap := h' }) :
    wpAny (model prog w) A.in1 (newExc (.type "StopIteration") [] >>= fun e => raiseNew (α := Fin) e) (fun fin s' => ∃ r, fin = Fin.done (.ret r) ∧ wpAny (model prog w) A (match (Except.ok (some r) : Except Value (Option Value)) with | .ok (some v) => pure (some v) | .ok none => unsupported "iter:the-iterator's-class-has-lost-its-__next__-amid-the-walk" | .error e => do if ← isInstance e (.type "StopIteration") then pure none else throw e) Q E s')
      (fun e s' => wpAny (model prog w) A (do if ← isInstance e (.type "StopIteration") then pure none else throw e) Q E s') s0 := by
  refine wpAny_bind ?_
  simp only [newExc, newTuple]
  refine wpAny_bind (wpAny_newObj_type ?_ (by size_fits))
  refine wpAny_bind (m := firstArgMember _ _) (wpAny_of_eq (a := Value.none) (by first | rfl | (simp only [firstArgMember]; rfl)) ?_)
  refine wpAny_newObj_type ?_ (by size_fits)
  simp only [raiseNew]
  refine wpAny_bind (wpAny_handled ?_)
  rw [show A.in1.handled = none from hh]
  refine wpAny_bind (wpAny_pure (wpAny_throw ?_))
  refine wpAny_bind (wpAny_isInstance (T := "StopIteration") (b := true) ⟨_, Heap.get?_push_size _ rfl, rfl⟩ isSubtype_stop ?_)
  exact wpAny_pure (q _ fun b o e => Heap.get?_push_of_some _ (Heap.get?_push_of_some _ e))
theorem wp_nextIe {slot : Nat} (hh : A.handled = none) (hi : ItAt s.heap it a (.int slot 0) i es.size ep) (hs : StAt s.heap a es ep t)
    (h : ∀ (A' : Around) (E' : Value → Shared → Prop) (Q' : Option (Value × Nat) → Shared → Prop), Q' none s → wpAny (model prog w) A' (setNext a slot i ep) Q' E' s)
    (q : ∀ h', Heap.ExtBut it s.heap h' → Q none { s with heap := h' }) : wpAny (model prog w) A (pyNext (.ref it)) Q E s := by
  obtain ⟨o, ho, hc, hd⟩ := id hi
  obtain ⟨os, ho', hx, hd', hf⟩ := hs
  unfold pyNext
  refine wpAny_bind (wpAny_attempt (wpAny_callSpecial?_slot (name := Str.ofString "__next__") hi.typeIs slot_si_next
    (wpAny_call_entry slot_si_next hi.typeIs entry_si_next ?_ (args_si_next _))))
  unfold Builtin.«set_iterator.__next__»
  refine wpAny_bind (wpAny_pure ?_)
  refine wpAny_bind (wpAny_fieldsOf ho hd ?_)
  dsimp only
  refine wpAny_bind (wpAny_setEntries_of ho' hd' hf ?_)
  rw [if_neg (by simp)]
  simp only [Int.toNat_natCast]
  refine wpAny_bind (h _ _ _ ?_)
  dsimp only
  refine wpAny_bind (wpAny_setField ho hd (by simp) ?_)
  exact stop_end hh fun h' k => q h' fun b o hb e => k b o ((Heap.SameBut.update ..).extBut b o hb e)
end
end ST

namespace ST
open PySem PyProof.Rows
section
variable {prog : Program} {w : World} {A : Around} {E : Value → Shared → Prop} {s : Shared} {a it tp : Addr} {es : Array (Int × Value)} {ep i : Nat} {t : SetTable} {first x : Value} {Q : Option Value → Shared → Prop} {ord : List Nat}
def tupO (ord : List Nat) : Obj := { cls := .type "tuple", data := .seq (ord.map fun (i : Nat) => rawInt i).toArray }
theorem wp_nextD {pl : Nat} {hx : Int} (hi : ItAt s.heap it a (.ref tp) i es.size ep) (hs : StAt s.heap a es ep t) (ht : s.heap.get? tp = some (tupO ord)) (e1 : ord[i]? = some pl) (e2 : es[pl]? = some (hx, x))
    (q : ∀ h', ItAt h' it a (.ref tp) (i + 1) es.size ep → Heap.SameBut it s.heap h' → Q (some x) { s with heap := h' }) : wpAny (model prog w) A (pyNext (.ref it)) Q E s := by
  obtain ⟨o, ho, hc, hd⟩ := id hi
  obtain ⟨os, ho', hx, hd', hf⟩ := hs
  unfold pyNext
  refine wpAny_bind (wpAny_attempt (wpAny_callSpecial?_slot (name := Str.ofString "__next__") hi.typeIs slot_si_next
    (wpAny_call_entry slot_si_next hi.typeIs entry_si_next ?_ (args_si_next _))))
  unfold Builtin.«set_iterator.__next__»
  refine wpAny_bind (wpAny_pure ?_)
  refine wpAny_bind (wpAny_fieldsOf ho hd ?_)
  dsimp only
  refine wpAny_bind (wpAny_setEntries_of ho' hd' hf ?_)
  rw [if_neg (by simp)]
  refine wpAny_bind (wpAny_seqItems ht rfl ?_)
  dsimp only
  have eg : (ord.map fun (i : Nat) => rawInt i).toArray[(i : Int).toNat]? = some (.int pl 0) := by
    rw [Int.toNat_natCast]
    simp [e1, rawInt]
  rw [eg]
  dsimp only
  unfold setNextDrawn
  refine wpAny_bind (wpAny_bind (wpAny_setState_of ho' hd' hf ?_))
  dsimp only
  rw [if_neg (by simp)]
  simp only [Int.toNat_natCast]
  rw [e2]
  refine wpAny_pure ?_
  refine wpAny_bind (wpAny_setField ho hd (by simp) ?_)
  have g1 := Heap.get?_update_self (Obj.mapFields (·.setIfInBounds 1 (rawInt ((i : Int) + 1)))) ho (Obj.isFreed_of_fields (Obj.data_mapFields hd _))
  refine wpAny_pure ⟨_, rfl, wpAny_pure (q _ ⟨_, g1, (Obj.cls_mapFields ..).trans hc, ?_⟩ (Heap.SameBut.update ..))⟩
  rw [Obj.data_mapFields hd]
  simp [rawInt]
theorem wp_nextDe (hh : A.handled = none) (hi : ItAt s.heap it a (.ref tp) i es.size ep) (hs : StAt s.heap a es ep t) (ht : s.heap.get? tp = some (tupO ord)) (e1 : ord[i]? = none)
    (q : ∀ h', Heap.ExtBut it s.heap h' → Q none { s with heap := h' }) : wpAny (model prog w) A (pyNext (.ref it)) Q E s := by
  obtain ⟨o, ho, hc, hd⟩ := id hi
  obtain ⟨os, ho', hx, hd', hf⟩ := hs
  unfold pyNext
  refine wpAny_bind (wpAny_attempt (wpAny_callSpecial?_slot (name := Str.ofString "__next__") hi.typeIs slot_si_next
    (wpAny_call_entry slot_si_next hi.typeIs entry_si_next ?_ (args_si_next _))))
  unfold Builtin.«set_iterator.__next__»
  refine wpAny_bind (wpAny_pure ?_)
  refine wpAny_bind (wpAny_fieldsOf ho hd ?_)
  dsimp only
  refine wpAny_bind (wpAny_setEntries_of ho' hd' hf ?_)
  rw [if_neg (by simp)]
  refine wpAny_bind (wpAny_seqItems ht rfl ?_)
  dsimp only
  have eg : (ord.map fun (i : Nat) => rawInt i).toArray[(i : Int).toNat]? = none := by
    rw [Int.toNat_natCast]
    simpa using e1
  rw [eg]
  dsimp only
  refine wpAny_bind (wpAny_setField ho hd (by simp) ?_)
  have g1 := Heap.get?_update_self (Obj.mapFields (·.setIfInBounds 0 (rawInt 0))) ho (Obj.isFreed_of_fields (Obj.data_mapFields hd _))
  refine wpAny_bind (wpAny_setField g1 (Obj.data_mapFields hd _) (by simp) ?_)
  exact stop_end hh fun h' k => q h' fun b o hb e => k b o (((Heap.SameBut.update ..).trans (Heap.SameBut.update ..)).extBut b o hb e)
theorem ItAt.at' {h h' : Heap} {n : Nat} (H : ItAt h it a first i n ep) (e : ∀ o, h.get? it = some o → h'.get? it = some o) : ItAt h' it a first i n ep := let ⟨o, ho, r⟩ := H; ⟨o, e _ ho, r⟩
theorem StAt.at' {h h' : Heap} (H : StAt h a es ep t) (e : ∀ o, h.get? a = some o → h'.get? a = some o) : StAt h' a es ep t := let ⟨o, ho, r⟩ := H; ⟨o, e _ ho, r⟩
theorem wp_self {n : Nat} {Q : Value → Shared → Prop} (hi : ItAt s.heap it a first i n ep) (q : Q (.ref it) s) : wpAny (model prog w) A (pyIter (.ref it)) Q E s := by
  have ty : s.TypeIs (.ref it) "set_iterator" := let ⟨o, ho, hc, _⟩ := hi; ⟨o, ho, hc⟩
  refine wpAny_pyIter_slot ty slot_si_iter (wpAny_call_entry slot_si_iter ty entry_si_iter ?_ (args_si_iter _))
  show wpAny _ _ (ret (.ref it)) _ _ s
  exact wpAny_pure ⟨_, rfl, "set_iterator", _, ty, slot_si_next.lookup, q⟩
theorem walkI (hh : A.handled = none) (ne : a ≠ it) (vs : List Value) (sl : Nat → Nat) (hl : vs.length = es.size)
    (hn : ∀ (s : Shared) (i : Nat), StAt s.heap a es ep t → i ≤ es.size → ∀ (A' : Around) (E' : Value → Shared → Prop) (Q' : Option (Value × Nat) → Shared → Prop), Q' (vs[i]?.map fun x => (x, sl (i + 1))) s → wpAny (model prog w) A' (setNext a (sl i) i ep) Q' E' s) :
    Walks prog w A it [it, a] [it] es.size (fun i v => vs[i]? = some v) (fun i h => ItAt h it a (.int (sl i) 0) i es.size ep ∧ StAt h a es ep t) where
  sub := fun b hb => by simp at hb; simp [hb]
  frame := fun _ _ _ st hk => ⟨st.1.at' fun o e => hk it (by simp) o e, st.2.at' fun o e => hk a (by simp) o e⟩
  item := fun i s Q E hi st hQ => by
    have ev : vs[i]? = some vs[i] := List.getElem?_eq_getElem (by omega)
    refine wp_nextI (x := vs[i]) (nx := sl (i + 1)) st.1 st.2 (fun A' E' Q' h' => hn s i st.2 (by omega) A' E' Q' (by rw [ev]; exact h')) fun h' hit' sb => ?_
    exact hQ _ h' s.toks ev ⟨hit', st.2.at' fun o e => sb.extBut a o ne e⟩ fun b o hb e => sb.extBut b o (fun z => hb (by simp [z])) e
  done := fun s Q E st hQ => by
    refine wp_nextIe hh st.1 st.2 (fun A' E' Q' h' => hn s _ st.2 (Nat.le_refl _) A' E' Q' (by rw [List.getElem?_eq_none (by omega)]; exact h')) fun h' sb => ?_
    exact hQ h' s.toks fun b o hb e => sb b o (fun z => hb (by simp [z])) e
  self := fun _ _ _ _ st hQ => wp_self st.1 hQ
theorem walkD (hh : A.handled = none) (ne : a ≠ it) (nt : tp ≠ it) (ho : ord.Perm (List.range es.size)) :
    Walks prog w A it [it, a, tp] [it] es.size (fun i v => (ord.filterMap fun j => es[j]?.map (·.2))[i]? = some v) (fun i h => ItAt h it a (.ref tp) i es.size ep ∧ StAt h a es ep t ∧ h.get? tp = some (tupO ord)) where
  sub := fun b hb => by simp at hb; simp [hb]
  frame := fun _ _ _ st hk => ⟨st.1.at' fun o e => hk it (by simp) o e, st.2.1.at' fun o e => hk a (by simp) o e, hk tp (by simp) _ st.2.2⟩
  item := fun i s Q E hi st hQ => by
    have ol : ord.length = es.size := by have := ho.length_eq; rwa [List.length_range] at this
    have eo : ord[i]? = some ord[i] := List.getElem?_eq_getElem (by omega)
    have pl : ord[i] < es.size := List.mem_range.mp (ho.mem_iff.mp (List.getElem_mem (by omega)))
    have ee : es[ord[i]]? = some es[ord[i]] := Array.getElem?_eq_getElem pl
    have all : ∀ (l : List Nat) (i : Nat), (∀ j ∈ l, j < es.size) → (l.filterMap fun j => es[j]?.map (·.2))[i]? = l[i]?.bind fun j => es[j]?.map (·.2) := by
      intro l
      induction l with
      | nil => intro i _; rfl
      | cons x l ih =>
        intro i h
        have xl := h x (List.mem_cons_self ..)
        rw [List.filterMap_cons, Array.getElem?_eq_getElem xl]
        dsimp only [Option.map_some]
        cases i with
        | zero => simp [Array.getElem?_eq_getElem xl]
        | succ i => simpa using ih i fun j m => h j (List.mem_cons_of_mem _ m)
    have ev := all ord i fun j m => List.mem_range.mp (ho.mem_iff.mp m)
    rw [eo] at ev
    refine wp_nextD (x := es[ord[i]].2) (hx := es[ord[i]].1) st.1 st.2.1 st.2.2 eo ee fun h' hit' sb => ?_
    exact hQ _ h' s.toks (by rw [ev]; simp [ee]) ⟨hit', st.2.1.at' fun o e => sb.extBut a o ne e, sb.extBut tp _ nt st.2.2⟩ fun b o hb e => sb.extBut b o (fun z => hb (by simp [z])) e
  done := fun s Q E st hQ => by
    have ol : ord.length = es.size := by have := ho.length_eq; rwa [List.length_range] at this
    refine wp_nextDe hh st.1 st.2.1 st.2.2 (List.getElem?_eq_none (by omega)) fun h' sb => ?_
    exact hQ h' s.toks fun b o hb e => sb b o (fun z => hb (by simp [z])) e
  self := fun _ _ _ _ st hQ => wp_self st.1 hQ
end
end ST

namespace ST
open PySem PyProof.Rows
theorem Bel.uniq {xs : Array Nat} {j k k' : Nat} (h : Bel xs j k) (h' : Bel xs j k') : k = k' := by
  have key : ∀ {k k' : Nat}, Bel xs j k → Bel xs j k' → ¬ k < k' := fun {k k'} h h' c => by
    have kl : k < xs.size := Nat.lt_of_lt_of_le c h'.le
    have e : xs[k]? = some xs[k] := Array.getElem?_eq_getElem kl
    have h1 := h.hi k _ (Nat.le_refl _) e
    have h2 := h'.lo k _ c e
    omega
  have := key h h'
  have := key h' h
  omega
theorem lt_push (h : Heap) (o : Obj) : h.objs.size < (h.push o).objs.size := by rw [Heap.size_push]; exact Nat.lt_succ_self _
def slP (t : SetTable) (i : Nat) : Nat := if i = 0 then 0 else (t.place.getD (i - 1) 0) + 1
theorem below_slP {t : SetTable} (h : Ri t) {i : Nat} (hi : i ≤ t.place.size) : SetTable.below t.place (slP t i) = i := by
  refine (below_ok h _).uniq ⟨hi, fun k x hk ex => ?_, fun k x hk ex => ?_⟩
  · obtain ⟨kl, rfl⟩ := Array.getElem?_eq_some_iff.mp ex
    unfold slP
    rw [if_neg (by omega)]
    have e : t.place.getD (i - 1) 0 = t.place[i - 1]'(by omega) := by simp [Array.getD, show i - 1 < t.place.size by omega]
    rw [e]
    by_cases c : k = i - 1
    · subst c; omega
    · have := pw_get h (i := k) (j := i - 1) (by simpa using kl) (by simp; omega) (by omega)
      have : t.place[k] < t.place[i - 1]'(by omega) := by simpa using this
      omega
  · obtain ⟨kl, rfl⟩ := Array.getElem?_eq_some_iff.mp ex
    unfold slP
    split
    · omega
    · have e : t.place.getD (i - 1) 0 = t.place[i - 1]'(by omega) := by simp [Array.getD, show i - 1 < t.place.size by omega]
      rw [e]
      have := pw_get h (i := i - 1) (j := k) (by simp; omega) (by simpa using kl) (by omega)
      have : t.place[i - 1]'(by omega) < t.place[k] := by simpa using this
      omega
section
variable {prog : Program} {w : World} {A : Around} {E : Value → Shared → Prop} {s : Shared} {a : Addr} {es : Array (Int × Value)} {ep i : Nat} {t : SetTable}
theorem next_text (c : w.params.followText "set-order" = true) (hs : StAt s.heap a es ep t) {Q : Option (Value × Nat) → Shared → Prop} (q : Q (((pickOrder (w.params.setOrder a ep) es).toList.map (·.2))[i]?.map fun x => (x, 0)) s) :
    wpAny (model prog w) A (setNext a 0 i ep) Q E s := by
  obtain ⟨o, ho, hx, hd, hf⟩ := hs
  unfold setNext
  refine wpAny_bind (wpAny_setState_of ho hd hf ?_)
  dsimp only
  unfold setsByText
  refine wpAny_bind (wpAny_bind (wpAny_askSetting (wpAny_pure ?_)))
  refine (?_ : wpAny _ _ (ite (w.params.followText "set-order" = true) _ _) _ _ _)
  rw [if_pos c, if_neg (by simp)]
  refine wpAny_bind ?_
  unfold setWalk
  refine wpAny_bind (wpAny_setState_of ho hd hf ?_)
  dsimp only
  refine wpAny_bind ?_
  unfold setsByText
  refine wpAny_bind (wpAny_askSetting (wpAny_pure ?_))
  refine (?_ : wpAny _ _ (ite (w.params.followText "set-order" = true) _ _) _ _ _)
  rw [if_pos c]
  refine wpAny_bind (wpAny_askSetting (wpAny_pure ?_))
  refine wpAny_pure ?_
  have : (((pickOrder (w.params.setOrder a ep) es)[i]?).map fun e => (e.2, 0)) = (((pickOrder (w.params.setOrder a ep) es).toList.map (·.2))[i]?.map fun x => (x, 0)) := by
    rw [List.getElem?_map, Array.getElem?_toList, Option.map_map]; rfl
  rw [← this] at q
  exact q
theorem next_plain (c : ¬ w.params.followText "set-order" = true) (d : ¬ (!t.plain && decide (es.size > 1)) = true) (hb : t.led = true) (hr : Ri t) (hs : StAt s.heap a es ep t) (hi : i ≤ es.size) {Q : Option (Value × Nat) → Shared → Prop} (q : Q ((es.toList.map (·.2))[i]?.map fun x => (x, slP t (i + 1))) s) :
    wpAny (model prog w) A (setNext a (slP t i) i ep) Q E s := by
  obtain ⟨o, ho, hx, hd, hf⟩ := hs
  have pz : t.place.size = es.size := by
    unfold SetTable.fits at hf
    rw [Bool.and_eq_true, beq_iff_eq] at hf
    exact hf.1
  unfold setNext
  refine wpAny_bind (wpAny_setState_of ho hd hf ?_)
  dsimp only
  unfold setsByText
  refine wpAny_bind (wpAny_bind (wpAny_askSetting (wpAny_pure ?_)))
  refine (?_ : wpAny _ _ (ite (w.params.followText "set-order" = true) _ _) _ _ _)
  rw [if_neg c]
  refine (?_ : wpAny _ _ (ite ((!t.plain && decide (es.size > 1)) = true) _ _) _ _ _)
  rw [if_neg d]
  refine wpAny_bind ?_
  refine (?_ : wpAny _ _ (ite ((!t.led && !es.isEmpty) = true) (unsupported "set:maker-not-led") (pure ())) _ _ _)
  rw [if_neg (by rw [hb]; simp)]
  refine wpAny_pure ?_
  rw [below_slP hr (by omega)]
  refine wpAny_pure ?_
  by_cases l : i < es.size
  · rw [Array.getElem?_eq_getElem l, Array.getElem?_eq_getElem (by omega)]
    rw [List.getElem?_map, Array.getElem?_toList, Array.getElem?_eq_getElem l] at q
    have e : slP t (i + 1) = t.place[i]'(by omega) + 1 := by
      unfold slP
      rw [if_neg (by omega)]
      simp [Array.getD, show i < t.place.size by omega]
    rw [e] at q
    exact q
  · rw [Array.getElem?_eq_none (by omega)]
    rw [List.getElem?_map, Array.getElem?_toList, Array.getElem?_eq_none (by omega)] at q
    exact q
end
section
variable {prog : Program} {w : World} {K : Type} [DecidableEq K] {knd : PySem.KeyKind prog w K} {A A' : Around} {E : Value → Shared → Prop} {s : Shared} {a : Addr} {D : List K}
def Its (knd : PySem.KeyKind prog w K) (D : List K) (vs : List Value) : Prop := ∃ ks : List K, ks.Perm D ∧ ks.length = vs.length ∧ ∀ (i : Nat) k v, ks[i]? = some k → vs[i]? = some v → knd.is k v = true ∧ v.scannable = true
theorem Els.its {es : List (Int × Value)} (h : Els knd es (fun k => decide (k ∈ D)) D.length) (nd : D.Nodup) : Its knd D (es.map (·.2)) := by
  obtain ⟨ks, pm, kl, ke⟩ := h.keys nd
  refine ⟨ks, pm, by rw [List.length_map]; exact kl, fun i k v e1 e2 => ?_⟩
  rw [List.getElem?_map] at e2
  cases e : es[i]? with
  | none => rw [e] at e2; cases e2
  | some x =>
    rw [e] at e2
    cases e2
    have := ke i k x e1 e
    exact ⟨this.1, this.2.2⟩
theorem wp_iter {Q : Value → Shared → Prop} (hh : A'.handled = none) (ha : SetD knd s.heap a D (ldW w)) (hn : D.length ≤ 128)
    (q : ∀ h' d' it fp vs St, (∀ (b : Nat) (o : Obj), s.heap.get? b = some o → h'.get? b = some o) → s.heap.objs.size ≤ it → it < h'.objs.size → (∀ b ∈ fp, b = a ∨ (s.heap.objs.size ≤ b ∧ b < h'.objs.size)) → Its knd D vs → vs.length = D.length →
      Walks prog w A' it fp [it] D.length (fun i v => vs[i]? = some v) St → St 0 h' → Q (.ref it) { heap := h', gens := s.gens, drawn := d', toks := s.toks, os := s.os }) :
    wpAny (model prog w) A (pyIter (.ref a)) Q E s := by
  obtain ⟨o, es, ep, t, h1, h2, h3, h4, h5, h6, h7, h8, h9, h10⟩ := id ha.set
  have el : Els knd es.toList (fun k => decide (k ∈ D)) D.length := ⟨h4, h5, by rw [Array.length_toList]; exact h8⟩
  have al : a < s.heap.objs.size := Heap.lt_size h1
  refine wpAny_pyIter_slot ha.typeIs F.slot_set_iter (wpAny_call_entry F.slot_set_iter ha.typeIs entry_set_iter ?_ (F.args_set_iter_1 _))
  unfold Builtin.«frozenset.__iter__»
  refine wpAny_bind (wpAny_pure ?_)
  refine wpAny_bind (wpAny_bind (wpAny_setEntries_of h1 h3 h7 (wpAny_pure ?_)))
  refine wpAny_bind ?_
  unfold setDrawn
  refine wpAny_bind (wpAny_setState_of h1 h3 h7 ?_)
  dsimp only
  unfold setsByText
  refine wpAny_bind (wpAny_bind (wpAny_askSetting (wpAny_pure ?_)))
  refine wpAny_pure ?_
  have ep2 : ∀ {A : Around} {E : Value → Shared → Prop} {s' : Shared} {Q : Nat → Shared → Prop}, s'.heap.get? a = some o → Q ep s' → wpAny (model prog w) A (setEpoch a) Q E s' := fun e hq => wpAny_setEpoch_of e h3 h7 hq
  by_cases c : w.params.followText "set-order" = true
  · have e1 : (!w.params.followText "set-order" && (!t.plain && decide (es.size > 1))) = false := by rw [c]; rfl
    refine (?_ : wpAny _ _ (ite ((!w.params.followText "set-order" && (!t.plain && decide (es.size > 1))) = true) _ _) _ _ _)
    rw [e1, if_neg (by decide)]
    refine wpAny_bind (wpAny_pure ?_)
    refine wpAny_bind (ep2 h1 ?_)
    refine wpAny_bind (wpAny_newObj_type (wpAny_pure ⟨_, rfl, "set_iterator", _, ⟨_, Heap.get?_push_size _ rfl, rfl⟩, slot_si_next.lookup, ?_⟩))
    have W := walkI (prog := prog) (w := w) (A := A') (es := es) (ep := ep) (t := t) (a := a) (it := s.heap.objs.size) hh (Nat.ne_of_lt al) ((pickOrder (w.params.setOrder a ep) es).toList.map (·.2)) (fun _ => 0) (by rw [List.length_map]; have := (pick_perm (next := w.params.setOrder a ep) (xs := es)).length_eq; simpa using this) fun s i st hi A' E' Q' hq => next_text c st hq
    rw [h8] at W
    refine q _ s.drawn _ _ _ _ (fun b o e => Heap.get?_push_of_some _ e) (Nat.le_refl _) (by rw [Heap.size_push]; omega) (fun b hb => ?_) ((el.perm pick_perm).its ha.nd) ?_ W ⟨⟨_, Heap.get?_push_size _ rfl, rfl, ?_⟩, o, Heap.get?_push_of_some _ h1, h2, h3, h7⟩
    · rcases List.mem_cons.mp hb with e | hb
      · exact .inr ⟨by rw [e]; exact Nat.le_refl _, by rw [e, Heap.size_push]; exact Nat.lt_succ_self _⟩
      · exact .inl (List.mem_singleton.mp hb)
    · rw [List.length_map]; have := (pick_perm (next := w.params.setOrder a ep) (xs := es)).length_eq; rw [this, Array.length_toList]; exact h8
    · simp [rawInt, h8]
  · have hb : t.led = true := by rw [h9]; unfold ldW; simpa using c
    have e1 : (!w.params.followText "set-order" && (!t.plain && decide (es.size > 1))) = (!t.plain && decide (es.size > 1)) := by
      rw [Bool.not_eq_true] at c
      rw [c]; rfl
    refine (?_ : wpAny _ _ (ite ((!w.params.followText "set-order" && (!t.plain && decide (es.size > 1))) = true) _ _) _ _ _)
    rw [e1]
    by_cases d : (!t.plain && decide (es.size > 1)) = true
    · rw [if_pos d]
      refine wpAny_bind (wp_draw (by simp) fun ord d' pm => ?_)
      refine wpAny_bind (wpAny_newTuple (items := ord.map fun (i : Nat) => rawInt i) ?_ (by rw [List.length_map, pm.length_eq, List.length_range, sizeLine_eq]; omega))
      have gt : (s.heap.push (tupO ord)).get? s.heap.objs.size = some (tupO ord) := Heap.get?_push_size _ rfl
      refine wpAny_bind (ep2 (Heap.get?_push_of_some _ h1) ?_)
      refine wpAny_bind (wpAny_newObj_type (wpAny_pure ⟨_, rfl, "set_iterator", _, ⟨_, Heap.get?_push_size _ rfl, rfl⟩, slot_si_next.lookup, ?_⟩))
      have sz : (s.heap.push (tupO ord)).objs.size = s.heap.objs.size + 1 := Heap.size_push ..
      have W := walkD (prog := prog) (w := w) (A := A') (es := es) (ep := ep) (t := t) (a := a) (tp := s.heap.objs.size) (it := (s.heap.push (tupO ord)).objs.size) hh (Nat.ne_of_lt (by rw [sz]; exact Nat.lt_succ_of_lt al)) (Nat.ne_of_lt (by rw [sz]; exact Nat.lt_succ_self _)) pm
      rw [h8] at W
      have pv : (ord.filterMap fun j => es[j]?).Perm es.toList := by
        have := fmA (es := es) (order := ord.toArray) (by simpa using pm)
        simpa using this
      have ev : (ord.filterMap fun j => es[j]?.map (·.2)) = (ord.filterMap fun j => es[j]?).map (·.2) := by
        rw [List.map_filterMap]
      refine q _ d' _ _ _ _ (fun b o e => Heap.get?_push_of_some _ (Heap.get?_push_of_some _ e)) (show s.heap.objs.size ≤ (s.heap.push (tupO ord)).objs.size by rw [sz]; exact Nat.le_succ _) (lt_push _ _) (fun b hb => ?_) (by rw [ev]; exact (el.perm pv).its ha.nd) ?_ W ⟨⟨_, Heap.get?_push_size _ rfl, rfl, ?_⟩, ⟨o, Heap.get?_push_of_some _ (Heap.get?_push_of_some _ h1), h2, h3, h7⟩, Heap.get?_push_of_some _ gt⟩
      · rw [Heap.size_push]
        rcases List.mem_cons.mp hb with e | hb
        · exact .inr ⟨by rw [e, sz]; exact Nat.le_succ _, by rw [e]; exact Nat.lt_succ_self _⟩
        · rcases List.mem_cons.mp hb with e | hb
          · exact .inl e
          · refine .inr ⟨by rw [List.mem_singleton.mp hb]; exact Nat.le_refl _, ?_⟩
            rw [List.mem_singleton.mp hb]
            exact Nat.lt_succ_of_lt (show s.heap.objs.size < (s.heap.push (tupO ord)).objs.size by rw [sz]; exact Nat.lt_succ_self _)
      · rw [ev, List.length_map, pv.length_eq, Array.length_toList]; exact h8
      · simp [rawInt, h8]
    · rw [if_neg d]
      refine wpAny_bind (wpAny_pure ?_)
      refine wpAny_bind (ep2 h1 ?_)
      refine wpAny_bind (wpAny_newObj_type (wpAny_pure ⟨_, rfl, "set_iterator", _, ⟨_, Heap.get?_push_size _ rfl, rfl⟩, slot_si_next.lookup, ?_⟩))
      have W := walkI (prog := prog) (w := w) (A := A') (es := es) (ep := ep) (t := t) (a := a) (it := s.heap.objs.size) hh (Nat.ne_of_lt al) (es.toList.map (·.2)) (slP t) (by simp) fun s i st hi A' E' Q' hq => next_plain c d hb h10 st hi hq
      rw [h8] at W
      refine q _ s.drawn _ _ _ _ (fun b o e => Heap.get?_push_of_some _ e) (Nat.le_refl _) (by rw [Heap.size_push]; omega) (fun b hb => ?_) (el.its ha.nd) ?_ W ⟨⟨_, Heap.get?_push_size _ rfl, rfl, ?_⟩, o, Heap.get?_push_of_some _ h1, h2, h3, h7⟩
      · rcases List.mem_cons.mp hb with e | hb
        · exact .inr ⟨by rw [e]; exact Nat.le_refl _, by rw [e, Heap.size_push]; exact Nat.lt_succ_self _⟩
        · exact .inl (List.mem_singleton.mp hb)
      · rw [List.length_map, Array.length_toList]; exact h8
      · simp [rawInt, h8, slP]
end
end ST

namespace ST
open PySem PyProof.Rows
section
variable {prog : Program} {w : World} {K : Type} [DecidableEq K] {knd : PySem.KeyKind prog w K} {A A' : Around} {E : Value → Shared → Prop} {s : Shared} {a : Addr} {D : List K}
theorem hint_set {r : Addr} {Q : Bool → Shared → Prop} (hT : s.TypeIs (.ref r) "set") (h : Q false s) : wpAny (model prog w) A (Builtin.List.listLengthHint (.ref r)) Q E s := by
  unfold Builtin.List.listLengthHint
  refine wpAny_bind (wpAny_specialOf hT PySem.F.slot_set_len.lookup ?_)
  generalize hid : ("set.__len__" : String) = id0
  wp_delta
  rw [show splitId id0 = some ("set", "__len__") from by subst hid; decide +kernel]
  subst hid
  refine wpAny_bind (wpAny_isInstance (T := "set") (b := true) hT (by rw [isSubtype_type]; kernel_rfl) ?_)
  refine wpAny_ite_split (fun hab => absurd hab (by decide)) (fun _ => ?_)
  refine wpAny_ite_split (fun _ => ?_) (fun hab => absurd (by decide +kernel) hab)
  refine wpAny_bind (wpAny_typeOf hT ?_)
  exact wpAny_pure h
theorem items_list {vs : List Value} {acc : Array Value} {n : Nat} (h : ItemsOf (fun i v => vs[i]? = some v) acc n) (hl : vs.length = n) : acc.toList = vs := by
  refine List.ext_getElem? fun i => ?_
  by_cases c : i < acc.size
  · rw [Array.getElem?_toList, Array.getElem?_eq_getElem c]
    exact (h.2 i _ (Array.getElem?_eq_getElem c)).symm
  · rw [List.getElem?_eq_none (by rw [Array.length_toList]; omega), List.getElem?_eq_none (by have := h.1; omega)]
theorem wp_extend {R : Result → Shared → Prop} (hh : A.handled = none) (ha : SetD knd s.heap a D (ldW w)) (hn : D.length ≤ 128) (S : Addr) (hSa : S ≠ a) (res : Value) (c₀ : Nat) (hS : s.heap.get? S = some { cls := .type "list", data := .seq #[] c₀ })
    (hR : ∀ h' tk d' acc' c', (∀ b o, b ≠ S → s.heap.get? b = some o → h'.get? b = some o) → h'.get? S = some { cls := .type "list", dict := none, data := .seq acc' c', slots := #[] } → Its knd D acc'.toList → R (.ok (.ret res)) { heap := h', gens := s.gens, drawn := d', toks := tk, os := s.os }) :
    wpAny (model prog w) A.in1 (Builtin.List.listExtendWith (.ref S) (.ref a) res)
      (fun fin s' => match fin with | .done f => R (.ok f) s' | .again c' => c'.quiet = true ∧ codeAny (model prog w) A c' R s') (fun e s' => R (.error e) s') s := by
  unfold Builtin.List.listExtendWith
  refine wpAny_bind (wpAny_typeOf ha.typeIs ?_)
  have h1 : Builtin.List.listSameRef (.ref S) (.ref a) = false := by simp [Builtin.List.listSameRef, hSa]
  simp only [h1, show (Value.type "set" == Value.type "list") = false by decide, show (Value.type "set" == Value.type "tuple") = false by decide, Bool.or_false, Bool.false_eq_true, if_false]
  refine wpAny_bind (wp_iter (A' := A.in1) hh ha hn fun h' d' it fp vs St kp i1 i2 fpo its vl W st => ?_)
  have hSl : S < s.heap.objs.size := Heap.lt_size hS
  have hSf : S ∉ fp := fun m => by
    rcases fpo S m with e | e
    · exact hSa e
    · exact absurd hSl (Nat.not_lt.mpr e.1)
  have key : ∀ (h : Heap) (c₁ tk : Nat), St 0 h → (∀ b o, b ≠ S → s.heap.get? b = some o → h.get? b = some o) →
      h.get? S = some { cls := .type "list", data := .seq #[] c₁ } → codeAny (model prog w) A (.builtin "list.extend.loop" ⟨[.ref S, .ref it, res], []⟩) R { heap := h, gens := s.gens, drawn := d', toks := tk, os := s.os } := by
    intro h c₁ tk hst hk hS₁
    refine codeAny_extend_loopS W.toS (by rw [sizeLine_eq]; omega) S hSf res D.length 0 _ #[] c₁ rfl (Nat.zero_le _) hst hS₁ (ItemsOf.nil _) fun s' acc' c' hm hS' hacc => ?_
    have ei := items_list hacc vl
    rw [Moved.eq_with hm]
    refine hR s'.heap s'.toks d' acc' c' (fun b o hb e => hm.heap b o (fun hmem => ?_) (hk b o hb e)) hS' (by rw [ei]; exact its)
    rcases List.mem_cons.mp hmem with e' | hmem
    · exact hb e'
    · have : b = it := List.mem_singleton.mp hmem
      exact absurd (Heap.lt_size e) (by rw [this]; exact Nat.not_lt.mpr i1)
  have hS₁ := kp S _ hS
  refine wpAny_bind (wpAny_holding (hint_set (ha.kept kp).typeIs ?_))
  refine wpAny_ite_split (fun _ => ?_) (fun _ => wpAny_pure ⟨plainId_quiet PySem.F.plain_extend_loop _, key _ c₀ _ st (fun b o _ e => kp b o e) hS₁⟩)
  refine wpAny_bind (wpAny_rule ?_)
  refine wpAny_bind ?_
  show wpAny _ _ (updateSeq S (·.push .none) >>= fun _ => updateSeq S (·.pop)) _ _ _
  refine wpAny_bind (wpAny_updateSeq hS₁ rfl ?_)
  have hS₂ := Heap.get?_update_self (Obj.mapSeq (·.push Value.none)) hS₁ rfl
  refine wpAny_updateSeq (hz := by seq_fits) hS₂ rfl ?_
  have hS₃ := Heap.get?_update_self (Obj.mapSeq (·.pop)) hS₂ rfl
  refine wpAny_pure ⟨plainId_quiet PySem.F.plain_extend_loop _, key _ _ _ ?_ (fun b o hb e => ?_) hS₃⟩
  · refine W.frame 0 _ _ st fun b hb o e => ?_
    have hbS : b ≠ S := fun h => hSf (h ▸ hb)
    exact (Heap.get?_update_other _ _ (Ne.symm hbS)).trans ((Heap.get?_update_other _ _ (Ne.symm hbS)).trans e)
  · exact (Heap.get?_update_other _ _ (Ne.symm hb)).trans ((Heap.get?_update_other _ _ (Ne.symm hb)).trans (kp b o e))
theorem wp_collect {R : List Value → Shared → Prop} (hh : A.handled = none) (ha : SetD knd s.heap a D (ldW w)) (hn : D.length ≤ 128)
    (h : ∀ (h' : Heap) (tk : Nat) d' (vs : List Value), (∀ b o, s.heap.get? b = some o → h'.get? b = some o) → Its knd D vs → R vs { heap := h', gens := s.gens, drawn := d', toks := tk, os := s.os }) :
    wpAny (model prog w) A (collect (.ref a)) R E s := by
  have hlt : a < s.heap.objs.size := ha.set.lt
  unfold collect
  refine wpAny_bind (wpAny_runValue (codeAny_builtin entry_proto_collect' ?_))
  rw [Around.under_plainId PySem.F.plain_proto_collect _]
  show wpAny _ A.in1 (newList [] >>= fun l => again (.builtin "list.__iadd__" ⟨[l, .ref a], []⟩)) _ _ s
  refine wpAny_bind (wpAny_newObj_type ?_)
  refine wpAny_pure ⟨plainId_quiet PySem.F.plain_list_iadd _, codeAny_builtin entry_list_iadd' ?_⟩
  rw [Around.under_plainId PySem.F.plain_list_iadd _]
  have hS₁ : (s.heap.push { cls := .type "list", data := .seq ([] : List Value).toArray }).get? s.heap.objs.size = some { cls := .type "list", data := .seq #[] } := Heap.get?_push_size _ rfl
  show wpAny _ A.in1 (Builtin.List.listExtendWith (.ref s.heap.objs.size) (.ref a) (.ref s.heap.objs.size)) _ _ _
  have key := wp_extend (A := A) (s := { s with heap := s.heap.push { cls := .type "list", data := .seq ([] : List Value).toArray } })
    (R := fun (q : Result) (s' : Shared) => ∃ (h' : Heap) (tk : Nat) (d' : Drawn) (acc' : Array Value) (c' : Nat), q = .ok (.ret (.ref s.heap.objs.size)) ∧ s' = { heap := h', gens := s.gens, drawn := d', toks := tk, os := s.os } ∧
      (∀ b o, s.heap.get? b = some o → h'.get? b = some o) ∧ h'.get? s.heap.objs.size = some { cls := .type "list", dict := none, data := .seq acc' c', slots := #[] } ∧ Its knd D acc'.toList)
    hh (ha.kept fun b o e => Heap.get?_push_of_some _ e) hn s.heap.objs.size (Nat.ne_of_gt hlt) (.ref s.heap.objs.size) 0 hS₁
    (fun h' tk d' acc' c' hk hS' hacc => ⟨h', tk, d', acc', c', rfl, rfl, fun b o e => hk b o (Nat.ne_of_lt (Heap.lt_size e)) (Heap.get?_push_of_some _ e), hS', hacc⟩)
  refine wpAny_mono key (fun fin s' x => ?_) fun e s' x => ?_
  · cases fin with
    | done f =>
      obtain ⟨h', tk, d', acc', c', e, rfl, hk, hS', hacc⟩ := x
      cases e
      show wpAny _ A (load s.heap.objs.size >>= _) _ _ _
      refine wpAny_bind (wpAny_load hS' ?_)
      exact wpAny_pure (h h' tk d' acc'.toList hk hacc)
    | again c₁ =>
      refine ⟨x.1, codeAny_mono x.2 fun q s₂ y => ?_⟩
      obtain ⟨h', tk, d', acc', c', rfl, rfl, hk, hS', hacc⟩ := y
      show wpAny _ A (load s.heap.objs.size >>= _) _ _ _
      refine wpAny_bind (wpAny_load hS' ?_)
      exact wpAny_pure (h h' tk d' acc'.toList hk hacc)
  · obtain ⟨_, _, _, _, _, e', _⟩ := x
    cases e'
end
end ST

namespace ST
open PySem PyProof.Rows
section
variable {prog : Program} {w : World} {K : Type} [DecidableEq K] {knd : PySem.KeyKind prog w K} {A A' : Around} {E : Value → Shared → Prop} {s : Shared} {a l : Addr} {D : List K}
theorem foldl_mem : ∀ {ks D : List K} {x : K}, x ∈ ks.foldl addK D ↔ x ∈ D ∨ x ∈ ks
  | [], D, x => by simp
  | k :: ks, D, x => by rw [List.foldl_cons, foldl_mem, addK_mem, List.mem_cons, or_assoc]
theorem foldl_len : ∀ {ks D : List K}, (ks.foldl addK D).length ≤ D.length + ks.length
  | [], D => by simp
  | k :: ks, D => by
    rw [List.foldl_cons]
    have := foldl_len (ks := ks) (D := addK D k)
    have := addK_len (D := D) (k := k)
    rw [List.length_cons]
    split at this <;> omega
theorem update_loop {R : Result → Shared → Prop} {I : Addr} {fp wr : List Addr} {G : Array GenState → Array GenState → Prop} {n : Nat} {P : Nat → Value → Prop} {St : Nat → Shared → Prop} (W : WalksS prog w A.in1 I fp wr G n P St) (S : Addr) (hSf : S ∉ fp)
    (ks : List K) (hk : ks.length = n) (hval : ∀ i v k, P i v → ks[i]? = some k → knd.is k v = true ∧ v.scannable = true) (hb : n + 1 < scanBound) {b : Bool} :
    ∀ (k i : Nat) (s : Shared), n - i = k → i ≤ n → St i s → SetD knd s.heap S ((ks.take i).foldl addK []) b →
      (∀ s', Moved (S :: wr) G s s' → SetD knd s'.heap S (ks.foldl addK []) b → R (.ok (.ret .none)) s') →
      codeAny (model prog w) A (.builtin "set.update.loop" ⟨[.ref S, .ref I], []⟩) R s := by
  have hSw : S ∉ wr := fun h => hSf (W.sub _ h)
  have hsub : ∀ b ∈ wr, b ∈ S :: wr := fun b hb => List.mem_cons_of_mem _ hb
  have mv : ∀ {s s' : Shared} {D}, Moved wr G s s' → SetD knd s.heap S D b → SetD knd s'.heap S D b := fun {s s' D} hm h => by
    refine h.keep ?_
    obtain ⟨o, _, _, _, e, _⟩ := h.set
    rw [e, hm.heap S _ hSw e]
  intro k
  induction k with
  | zero =>
    intro i s hk' hi hst hS hR
    have hin : i = n := by omega
    subst hin
    refine codeAny_builtin F.entry_set_update_loop ?_
    rw [Around.under_plainId F.plain_set_update_loop _]
    show wpAny _ A.in1 (pyNext (.ref I) >>= _) _ _ s
    refine wpAny_bind (W.done s _ _ hst fun s' hm => ?_)
    show wpAny _ A.in1 (ret Value.none) _ _ s'
    rw [List.take_of_length_le (by omega)] at hS
    exact wpAny_pure (hR s' (hm.mono hsub) (mv hm hS))
  | succ k ih =>
    intro i s hk' hi hst hS hR
    have hlt : i < n := by omega
    refine codeAny_builtin F.entry_set_update_loop ?_
    rw [Around.under_plainId F.plain_set_update_loop _]
    show wpAny _ A.in1 (pyNext (.ref I) >>= _) _ _ s
    refine wpAny_bind (W.item i s _ _ hlt hst fun v s' hP hst' hm => ?_)
    have kil : i < ks.length := by omega
    obtain ⟨i1, i2⟩ := hval i v ks[i] hP (List.getElem?_eq_getElem kil)
    show wpAny _ A.in1 (holding [v] (setAdd S v) >>= _) _ _ s'
    refine wpAny_bind (wpAny_holding ?_)
    unfold setAdd
    refine wpAny_holding ?_
    refine wpAny_bind (knd.pyHash i1 ?_)
    have hS' := mv hm hS
    refine SetD.add (s := { s' with toks := s'.toks + 1 }) i1 i2 hS' (by have := foldl_len (ks := ks.take i) (D := []); have := List.length_take (i := i) (l := ks); simp only [List.length_nil] at *; omega) fun h' r hsb hS2 => ?_
    have e : addK ((ks.take i).foldl addK []) ks[i] = (ks.take (i + 1)).foldl addK [] := by
      rw [List.take_succ_eq_append_getElem kil, List.foldl_append]; rfl
    rw [e] at hS2
    refine wpAny_pure ⟨plainId_quiet F.plain_set_update_loop _, ih (i + 1) _ (by omega) hlt (W.frame _ s' _ _ hst' (Nat.le_succ _) fun b hb o e => ?_) hS2 fun s'' hm'' hS'' => ?_⟩
    · rw [hsb.2 b (fun h : b = S => hSf (by rw [← h]; exact hb))]; exact e
    · refine hR s'' (Moved.trans W.gtrans ((hm.mono hsub).then_heap (Nat.le_succ _) fun b o hb e => ?_) hm'') hS''
      rw [hsb.2 b (fun h : b = S => hb (by rw [h]; exact List.mem_cons_self))]; exact e
theorem call_set_list {ks : List K} {its : Array Value} {Q : Value → Shared → Prop} (hl : s.heap.IsList l its) (hh : A.handled = none) (hk : ks.length = its.size) (hn : its.size ≤ 100)
    (hval : ∀ (i : Nat) v k, its[i]? = some v → ks[i]? = some k → knd.is k v = true ∧ v.scannable = true)
    (q : ∀ h' tk, (∀ (b : Nat) (o : Obj), s.heap.get? b = some o → h'.get? b = some o) → SetD knd h' s.heap.objs.size (ks.foldl addK []) (ldW w) → Q (.ref s.heap.objs.size) { heap := h', gens := s.gens, drawn := s.drawn, toks := tk, os := s.os }) :
    wpAny (model prog w) A (call (.type "set") [.ref l]) Q E s := by
  refine callType' (Q₁ := fun obj s₁ => obj = .ref s.heap.objs.size ∧ s₁ = { heap := s.heap.push { cls := Value.type "set", data := Data.set #[] 0 (SetTable.fresh 0 0 (ldW w)) }, gens := s.gens, drawn := s.drawn, toks := s.toks, os := s.os }) F.called_set (F.typeCall_set_1 _) F.entry_set_init (by decide +kernel) (code_set_new' _ ⟨rfl, rfl⟩) fun obj s₁ h₁ => ?_
  obtain ⟨rfl, rfl⟩ := h₁
  have g1 : (s.heap.push { cls := Value.type "set", data := Data.set #[] 0 (SetTable.fresh 0 0 (ldW w)) }).get? s.heap.objs.size = some { cls := Value.type "set", data := Data.set #[] 0 (SetTable.fresh 0 0 (ldW w)) } := Heap.get?_push_size _ rfl
  have ty : Shared.TypeIs { heap := s.heap.push { cls := Value.type "set", data := Data.set #[] 0 (SetTable.fresh 0 0 (ldW w)) }, gens := s.gens, drawn := s.drawn, toks := s.toks, os := s.os } (.ref s.heap.objs.size) "set" := ⟨_, g1, rfl⟩
  refine ⟨ty, fun hq => check_set_init_1 ty hq, fun A' hA => ?_⟩
  have hS : SetD knd (s.heap.push { cls := Value.type "set", data := Data.set #[] 0 (SetTable.fresh 0 0 (ldW w)) }) s.heap.objs.size ([] : List K) (ldW w) := ⟨⟨_, #[], 0, _, g1, ⟨rfl, rfl, rfl⟩, rfl, fun e m => by simp at m, fun k => by simp, by decide, rfl, rfl, rfl, List.Pairwise.nil⟩, List.nodup_nil⟩
  obtain ⟨o, h1, h2, n, h3⟩ := hl
  have ll : l < s.heap.objs.size := Heap.lt_size h1
  have tl : Shared.TypeIs { heap := s.heap.push { cls := Value.type "set", data := Data.set #[] 0 (SetTable.fresh 0 0 (ldW w)) }, gens := s.gens, drawn := s.drawn, toks := s.toks, os := s.os } (.ref l) "list" := ⟨o, Heap.get?_push_of_some _ h1, h2⟩
  unfold Builtin.«set.__init__»
  refine wpAny_bind (wpAny_pure ?_)
  dsimp only
  unfold typeNameOfCut shownTypeOf
  refine wpAny_bind (wpAny_bind (wpAny_bind (wpAny_typeOf ty ?_)))
  rw [if_neg (by decide)]
  refine wpAny_pure ?_
  refine (?_ : wpAny _ _ (typeName (Value.type "set")) _ _ _)
  unfold typeName
  dsimp only
  refine wpAny_pure ?_
  generalize (Manifest.find? "set").elim "set" _ = nm0
  refine wpAny_bind (?_ : wpAny _ _ (pure ()) _ _ _)
  refine wpAny_pure ?_
  refine wpAny_bind (wpAny_pure ?_)
  refine wpAny_bind ?_
  unfold setUsed
  refine wpAny_bind (wpAny_setState_of g1 rfl rfl ?_)
  refine wpAny_pure ?_
  rw [if_neg (by show ¬ (0 != 0) = true; decide)]
  refine wpAny_bind ?_
  unfold Builtin.Frozenset.updateFrom
  refine wpAny_bind ?_
  unfold Builtin.Frozenset.isAnySet
  refine (?_ : wpAny _ _ (bind (isInstance (Value.ref l) (Value.type "set")) _) _ _ _)
  refine wpAny_bind (wpAny_isInstance tl F.sub_list_set ?_)
  refine wpAny_isInstance tl F.sub_list_frozenset ?_
  rw [if_neg (by decide)]
  refine wpAny_bind (wpAny_typeOf tl ?_)
  rw [if_neg (by decide)]
  refine wpAny_bind (wpAny_pyIter_list ⟨o, Heap.get?_push_of_some _ h1, h2, n, h3⟩ ?_)
  have zs : (s.heap.push { cls := Value.type "set", data := Data.set #[] 0 (SetTable.fresh 0 0 (ldW w)) }).objs.size = s.heap.objs.size + 1 := Heap.size_push ..
  refine wpAny_bind (wpAny_runValue ?_)
  have W := Walks.list (prog := prog) (w := w) (A := A'.in1) (show A'.in1.handled = none from hA.trans hh) (s.heap.push { cls := Value.type "set", data := Data.set #[] 0 (SetTable.fresh 0 0 (ldW w)) }).objs.size l (Nat.ne_of_lt (by rw [zs]; exact Nat.lt_succ_of_lt ll)) its
  refine update_loop (knd := knd) W.toS s.heap.objs.size (fun m => ?_) ks hk (fun i v k e1 e2 => hval i v k e1 e2) (by have : scanBound = 4096 := rfl; omega) (b := ldW w) its.size 0 _ (by omega) (Nat.zero_le _) ⟨⟨_, Heap.get?_push_size _ rfl, rfl, rfl⟩, o, Heap.get?_push_of_some _ (Heap.get?_push_of_some _ h1), h2, n, h3⟩ (hS.kept fun b o e => Heap.get?_push_of_some _ e) fun s' hm hS' => ?_
  · rcases List.mem_cons.mp m with e | m
    · have : s.heap.objs.size = s.heap.objs.size + 1 := e.trans zs
      omega
    · exact Nat.ne_of_gt ll (List.mem_singleton.mp m)
  · refine wpAny_pure (wpAny_pure ⟨rfl, ?_⟩)
    rw [Moved.eq_with hm]
    refine q s'.heap s'.toks (fun b o e => hm.heap b o (fun m => ?_) (Heap.get?_push_of_some _ (Heap.get?_push_of_some _ e))) hS'
    have bl : b < s.heap.objs.size := Heap.lt_size e
    rcases List.mem_cons.mp m with z | m
    · exact absurd bl (by rw [z]; exact Nat.lt_irrefl _)
    · have z : b = s.heap.objs.size + 1 := (List.mem_singleton.mp m).trans zs
      exact absurd bl (by rw [z]; omega)
end
end ST

namespace ST
open PySem PyProof.Rows
theorem am_enum_getattr_none : typeLookup (.type "enumerate") "__getattr__" = pure none := by rw [typeLookup_type, builtinLookup_eq_fast]; kernel_rfl
theorem enum_keys_none : typeLookup (.type "enumerate") "keys" = pure none := by rw [typeLookup_type, builtinLookup_eq_fast]; kernel_rfl
theorem am_entry_enum : entryFor table "enumerate.__getattribute__" = some Builtin.«object.__getattribute__» :=
  entryFor_alias (id' := "object.__getattribute__") (by kernel_rfl) (by decide +kernel) (by decide +kernel) (by kernel_rfl)
theorem meets_miss_enum (a : Addr) (vs : Array Value) (sl : Array (Option Value)) (name : Str) (u : Tok) (hmiss : typeLookup (.type "enumerate") name = pure none) (hname : (["__module__", "__name__", "__qualname__", "__doc__", "__annotations__"] : List Str).contains name = false) (hsz : name.length + 100 ≤ sizeLine := by size_fits) :
    Meets (Builtin.«object.__getattribute__» ⟨[.ref a, .str name u], []⟩) (fun A R s => s.heap.get? a = some { cls := .type "enumerate", dict := none, data := .fields vs, slots := sl } ∧ raisesAttr (.ref a) name A R s) :=
  Meets.of_wp fun prog w A R s hs => by
    obtain ⟨hp, g, d, tk, os⟩ := s
    obtain ⟨hx, hs⟩ := hs
    have hT : (⟨hp, g, d, tk, os⟩ : Shared).TypeIs (.ref a) "enumerate" := ⟨_, hx, rfl⟩
    unfold Builtin.«object.__getattribute__»
    repeat (any_goals (first | assumption | wp_step))
    simp only [hname, Bool.false_eq_true, if_false]
    repeat (any_goals (first | assumption | wp_step))
    exact wpAny_raiseAttrError hs.1 hs.2 (attrMsg_fits (by decide +kernel) hsz)
theorem enum_no_keys {prog : Program} {w : World} {A : Around} {E : Value → Shared → Prop} {s : Shared} {a : Addr} {vs : Array Value} {Q : Option Value → Shared → Prop}
    (hx : s.heap.get? a = some { cls := .type "enumerate", dict := none, data := .fields vs, slots := #[] }) (hA : A.handled = none)
    (h : ∀ h' tk, (∀ b o, s.heap.get? b = some o → h'.get? b = some o) → Q none { s with heap := h', toks := tk }) :
    wpAny (model prog w) A (getAttr? (.ref a) "keys") Q E s := by
  obtain ⟨hp, g, d, tk, os⟩ := s
  have hT : ∀ tk', (⟨hp, g, d, tk', os⟩ : Shared).TypeIs (.ref a) "enumerate" := fun _ => ⟨_, hx, rfl⟩
  have f1 := sub_AttributeError
  have f3 := F.slot_enumerate_getattribute.lookup
  have f4 := F.slot_enumerate_getattribute.bind (.ref a)
  have f5 := am_enum_getattr_none
  unfold getAttr? getAttrBy? getAttrBy
  repeat (any_goals (first | assumption | exact hT _ | ((with_reducible show wpAny _ _ (call (Value.builtin "enumerate.__getattribute__") _ _) _ _ _); refine call_meets F.slot_enumerate_getattribute (hT _) am_entry_enum (F.args_enumerate_getattribute_2 _ _) (meets_miss_enum a vs #[] "keys" _ enum_keys_none (by decide +kernel) (by rw [sizeLine_eq]; decide +kernel)) ⟨hx, hA, fun h' tk' e hx' => ?_⟩) | wp_step))
  obtain ⟨t', u', he⟩ := hx'.there
  show wpAny _ _ (getattributeRaised _ _ _ _ _ _ _) _ _ _
  unfold getattributeRaised
  repeat (any_goals (first | assumption | wp_step))
  exact h _ _ hx'.keeps
end ST

namespace ST
open PySem PyProof.Rows
abbrev EnX (h : Heap) (e it : Addr) (i : Int) (f0 f1 old : Value) : Prop :=
  h.get? e = some { cls := .type "enumerate", dict := none, data := .fields #[f0, f1, .ref it, rawInt i, .none, old], slots := #[] }
section
variable {prog : Program} {w : World} {A : Around} {E : Value → Shared → Prop} {s : Shared}
theorem enum_next_out {e it l T : Addr} {i : Nat} {items : Array Value} {x old : Value} {b : Bool} {Q : Value → Shared → Prop}
    (he : EnX s.heap e it i (rawInt T) (.bool b) old) (hT : ∃ o, s.heap.get? T = some o) (hit : s.heap.IsListIter it l i) (hl : s.heap.IsList l items) (hx : items[i]? = some x) (hne : e ≠ it)
    (hQ : ∀ h', EnX h' e it ((i : Int) + 1) (rawInt T) (.bool true) old → h'.IsListIter it l (i + 1) →
      h'.get? s.heap.objs.size = some { cls := .type "tuple", data := .seq #[.int i s.toks, x] } → h'.objs.size = s.heap.objs.size + 1 →
      (∀ b o, b ≠ e → b ≠ it → s.heap.get? b = some o → h'.get? b = some o) → (∃ o, h'.get? T = some o) → Q (.ref s.heap.objs.size) { s with heap := h', toks := s.toks + 1 }) :
    wpAny (model prog w) A (Builtin.«enumerate.__next__» ⟨[.ref e], []⟩) (fun fin s' => ∃ v, fin = .done (.ret v) ∧ Q v s') E s := by
  obtain ⟨hp, g, d, tk, os⟩ := s
  have live : ∀ {h h' : Heap} {c : Addr}, Heap.SameBut c h h' → (∃ o, h'.get? c = some o) → (∃ o, h.get? T = some o) → ∃ o, h'.get? T = some o := fun {h h' c} sb hc ⟨o, ho⟩ => by
    by_cases z : T = c
    · rw [z]; exact hc
    · exact ⟨o, (sb.2 T z).trans ho⟩
  show wpAny _ _ (field (.ref e) 2 >>= _) _ _ _
  refine wpAny_bind (wpAny_field he rfl (x := .ref it) rfl ?_)
  refine wpAny_bind (wpAny_nextOf_list_item hit hl hx fun h₁ hit₁ hs₁ => ?_)
  replace hs₁ : Heap.SameBut it hp h₁ := hs₁
  have hT₁ := live hs₁ (let ⟨o, ho, _⟩ := hit₁; ⟨o, ho⟩) hT
  have he₁ : EnX h₁ e it i (rawInt T) (.bool b) old := (hs₁.2 e hne).trans he
  show wpAny _ _ (field (.ref e) 3 >>= _) _ _ ⟨h₁, g, d, tk, os⟩
  refine wpAny_bind (wpAny_field he₁ rfl (x := rawInt i) rfl ?_)
  show wpAny _ _ (field (.ref e) 4 >>= _) _ _ ⟨h₁, g, d, tk, os⟩
  refine wpAny_bind (wpAny_field he₁ rfl (x := .none) rfl ?_)
  show wpAny _ _ (mkInt i >>= _) _ _ ⟨h₁, g, d, tk, os⟩
  refine wpAny_bind (wpAny_mkInt ?_)
  show wpAny _ _ (setField (.ref e) 3 (rawInt ((i : Int) + 1)) >>= _) _ _ ⟨h₁, g, d, tk + 1, os⟩
  refine wpAny_bind (wpAny_setField_rec he₁ (by simp) fun h₂ he₂ hs₂ => ?_)
  replace hs₂ : Heap.SameBut e h₁ h₂ := hs₂
  replace he₂ : EnX h₂ e it ((i : Int) + 1) (rawInt T) (.bool b) old := he₂
  have hT₂ := live hs₂ ⟨_, he₂⟩ hT₁
  show wpAny _ _ (setField (.ref e) 4 .none >>= _) _ _ ⟨h₂, g, d, tk + 1, os⟩
  refine wpAny_bind (wpAny_setField_rec he₂ (by simp) fun h₃ he₃ hs₃ => ?_)
  replace hs₃ : Heap.SameBut e h₂ h₃ := hs₃
  replace he₃ : EnX h₃ e it ((i : Int) + 1) (rawInt T) (.bool b) old := he₃
  have hT₃ := live hs₃ ⟨_, he₃⟩ hT₂
  show wpAny _ _ (newTuple [.int i tk, x] >>= _) _ _ ⟨h₃, g, d, tk + 1, os⟩
  refine wpAny_bind (wpAny_newTuple ?_)
  have he₄ : EnX (h₃.push { cls := .type "tuple", data := .seq #[.int i tk, x] }) e it ((i : Int) + 1) (rawInt T) (.bool b) old := Heap.get?_push_of_some _ he₃
  have hT₄ : ∃ o, (h₃.push { cls := .type "tuple", data := .seq #[.int i tk, x] }).get? T = some o := let ⟨o, ho⟩ := hT₃; ⟨o, Heap.get?_push_of_some _ ho⟩
  generalize hh₄ : h₃.push { cls := .type "tuple", data := .seq #[.int i tk, x] } = h₄ at he₄ hT₄
  have hsz : h₃.objs.size = hp.objs.size := by rw [hs₃.1, hs₂.1, hs₁.1]
  have hel : e < hp.objs.size := Heap.lt_size he
  have ht₄ : h₄.get? hp.objs.size = some { cls := .type "tuple", data := .seq #[.int i tk, x] } := by rw [← hh₄, ← hsz]; exact Heap.get?_push_size _ rfl
  have hz₄ : h₄.objs.size = hp.objs.size + 1 := by rw [← hh₄, Heap.size_push, hsz]
  have hk₄ : ∀ b o, b ≠ e → b ≠ it → hp.get? b = some o → h₄.get? b = some o := fun b o hbe hbi hb => by
    rw [← hh₄]; exact Heap.get?_push_of_some _ (hs₃.extBut b o hbe (hs₂.extBut b o hbe (hs₁.extBut b o hbi hb)))
  have hit₄ : h₄.IsListIter it l (i + 1) := by
    rw [← hh₄]; obtain ⟨o, ho, r⟩ := (hit₁.extBut hs₂.extBut (Ne.symm hne)).extBut hs₃.extBut (Ne.symm hne); exact ⟨o, Heap.get?_push_of_some _ ho, r⟩
  show wpAny _ _ (Builtin.SmallTypes.ownedTupleIsFree (.ref e) >>= _) _ _ ⟨h₄, g, d, tk + 1, os⟩
  rw [hsz]
  clear hh₄ he₃ hs₃ he₂ hs₂ he₁ hs₁ hit₁ hsz hT₃ hT₂ hT₁ h₃ h₂ h₁
  refine wpAny_bind ?_
  unfold Builtin.SmallTypes.ownedTupleIsFree
  refine wpAny_bind (wpAny_field he₄ rfl (x := rawInt T) rfl ?_)
  obtain ⟨oT, hoT⟩ := hT₄
  dsimp only [rawInt]
  refine wpAny_bind (?_ : wpAny _ _ (loadIfAlive (Int.toNat (T : Int))) _ _ _)
  have la : ∀ {A : Around} {E : Value → Shared → Prop} {Q' : Option Obj → Shared → Prop} {s' : Shared} (c : Addr), Q' (s'.heap.get? c) s' → wpAny (model prog w) A (loadIfAlive c) Q' E s' := fun {A E Q' s'} c hq Γ p hΓ => by
    unfold loadIfAlive
    rw [Sem.wp_loadIfAlive]
    exact wpAny_pure (M := model prog w) (A := A) hq Γ p hΓ
  refine la _ ?_
  rw [Int.toNat_natCast, hoT]
  rw [if_neg (show ¬ (some oT).isNone = true from Bool.false_ne_true)]
  refine wpAny_bind (wpAny_field he₄ rfl (x := .bool b) rfl ?_)
  have fin : ∀ (h₅ : Heap), EnX h₅ e it ((i : Int) + 1) (rawInt T) (.bool true) old → Heap.SameBut e h₄ h₅ → Q (.ref hp.objs.size) ⟨h₅, g, d, tk + 1, os⟩ := fun h₅ he₅ hs₅ =>
    hQ h₅ he₅ (hit₄.extBut hs₅.extBut (Ne.symm hne)) (hs₅.extBut _ _ (Nat.ne_of_gt hel) ht₄) (by show h₅.objs.size = hp.objs.size + 1; rw [hs₅.1, hz₄]) (fun b o hbe hbi hb => hs₅.extBut b o hbe (hk₄ b o hbe hbi hb)) (live hs₅ ⟨_, he₅⟩ ⟨oT, hoT⟩)
  cases b with
  | false =>
    rw [if_pos (by decide)]
    refine wpAny_bind (wpAny_setField_rec he₄ (by simp) fun h₅ he₅ hs₅ => ?_)
    refine wpAny_pure ?_
    rw [if_neg (by decide)]
    exact wpAny_pure ⟨_, rfl, fin h₅ he₅ hs₅⟩
  | true =>
    rw [if_neg (by decide)]
    refine wpAny_pure ?_
    rw [if_neg (by decide)]
    exact wpAny_pure ⟨_, rfl, fin h₄ he₄ (Heap.SameBut.refl ..)⟩
theorem next_out {e it l T : Addr} {i : Nat} {items : Array Value} {x old : Value} {b : Bool} {Q : Option Value → Shared → Prop}
    (he : EnX s.heap e it i (rawInt T) (.bool b) old) (hT : ∃ o, s.heap.get? T = some o) (hit : s.heap.IsListIter it l i) (hl : s.heap.IsList l items) (hx : items[i]? = some x) (hne : e ≠ it)
    (hQ : ∀ h', EnX h' e it ((i : Int) + 1) (rawInt T) (.bool true) old → h'.IsListIter it l (i + 1) →
      h'.get? s.heap.objs.size = some { cls := .type "tuple", data := .seq #[.int i s.toks, x] } → h'.objs.size = s.heap.objs.size + 1 →
      (∀ b o, b ≠ e → b ≠ it → s.heap.get? b = some o → h'.get? b = some o) → (∃ o, h'.get? T = some o) → Q (some (.ref s.heap.objs.size)) { s with heap := h', toks := s.toks + 1 }) :
    wpAny (model prog w) A (pyNext (.ref e)) Q E s := by
  have hT' : s.TypeIs (.ref e) "enumerate" := ⟨_, he, rfl⟩
  unfold pyNext
  exact wpAny_bind (wpAny_attempt (wpAny_callSpecial?_slot (name := Str.ofString "__next__") hT' F.slot_enumerate_next
    (wpAny_call_entry F.slot_enumerate_next hT' F.entry_enumerate_next
      (enum_next_out he hT hit hl hx hne fun h' a b c d k z => wpAny_pure (hQ h' a b c d k z)) (F.args_enumerate_next_1 _))))
theorem next_out_end {e it l : Addr} {i : Nat} {items : Array Value} {f0 f1 old : Value} {Q : Option Value → Shared → Prop} (hh : A.handled = none)
    (he : EnX s.heap e it i f0 f1 old) (hit : s.heap.IsListIter it l i) (hl : s.heap.IsList l items) (hx : items[i]? = none)
    (hQ : ∀ h', Heap.ExtBut it s.heap h' → Q none { s with heap := h' }) : wpAny (model prog w) A (pyNext (.ref e)) Q E s := by
  have hT : s.TypeIs (.ref e) "enumerate" := ⟨_, he, rfl⟩
  unfold pyNext
  refine wpAny_bind (wpAny_attempt (wpAny_callSpecial?_slot (name := Str.ofString "__next__") hT F.slot_enumerate_next
    (wpAny_call_entry F.slot_enumerate_next hT F.entry_enumerate_next ?_ (F.args_enumerate_next_1 _))))
  show wpAny _ _ (field (.ref e) 2 >>= _) _ _ _
  refine wpAny_bind (wpAny_field he rfl (x := .ref it) rfl ?_)
  refine wpAny_bind (wpAny_nextOf_list_end hh hit hl hx fun h' x he' hx' => ?_)
  obtain ⟨o, ho, hc⟩ := hx'
  refine wpAny_bind (wpAny_isInstance (T := "StopIteration") (b := true) ⟨o, ho, hc⟩ isSubtype_stop ?_)
  exact wpAny_pure (hQ _ he')
end
end ST

namespace ST
open PySem PyProof.Rows
theorem entry_dul : entryFor table "dict.update.loop" = some Builtin.«dict.update.loop» := entryFor_of_tree (by kernel_rfl)
theorem plain_dul : plainId "dict.update.loop" = true := by decide +kernel
def EnS (h : Heap) (e it : Addr) (i : Nat) : Prop := (∃ old, IsEnum h e it i old) ∨ ∃ (T : Addr) (b : Bool) (old : Value), EnX h e it i (rawInt T) (.bool b) old ∧ ∃ o, h.get? T = some o
theorem EnS.there {h : Heap} {e it : Addr} {i : Nat} (H : EnS h e it i) : ∃ vs, h.get? e = some { cls := .type "enumerate", dict := none, data := .fields vs, slots := #[] } := by
  rcases H with ⟨old, H⟩ | ⟨T, b, old, H, _⟩
  · exact ⟨_, H⟩
  · exact ⟨_, H⟩
section
variable {prog : Program} {w : World} {K : Type} [DecidableEq K] {knd : PySem.KeyKind prog w K} {A : Around} {E : Value → Shared → Prop}
theorem ens_item {s : Shared} {e it l : Addr} {i : Nat} {items : Array Value} {x : Value} {Q : Option Value → Shared → Prop}
    (he : EnS s.heap e it i) (hit : s.heap.IsListIter it l i) (hl : s.heap.IsList l items) (hx : items[i]? = some x) (hne : e ≠ it)
    (hQ : ∀ h', EnS h' e it (i + 1) → h'.IsListIter it l (i + 1) →
      h'.get? s.heap.objs.size = some { cls := .type "tuple", data := .seq #[.int i s.toks, x] } → h'.objs.size = s.heap.objs.size + 1 →
      (∀ b o, b ≠ e → b ≠ it → s.heap.get? b = some o → h'.get? b = some o) → Q (some (.ref s.heap.objs.size)) { s with heap := h', toks := s.toks + 1 }) :
    wpAny (model prog w) A (pyNext (.ref e)) Q E s := by
  rcases he with ⟨old, he⟩ | ⟨T, b, old, he, hT⟩
  · refine wpAny_pyNext_enum_item he hit hl hx hne fun h' a1 a2 a3 a4 a5 => hQ h' (.inr ⟨s.heap.objs.size, false, x, ?_, _, a3⟩) a2 a3 a4 a5
    have a1 : h'.get? e = some { cls := .type "enumerate", dict := none, data := .fields #[rawInt s.heap.objs.size, .bool false, .ref it, rawInt ((i : Int) + 1), .none, x], slots := #[] } := a1
    exact a1
  · exact next_out he hT hit hl hx hne fun h' a1 a2 a3 a4 a5 a6 => hQ h' (.inr ⟨T, true, old, a1, a6⟩) a2 a3 a4 a5
theorem ens_end {s : Shared} {e it l : Addr} {i : Nat} {items : Array Value} {Q : Option Value → Shared → Prop} (hh : A.handled = none)
    (he : EnS s.heap e it i) (hit : s.heap.IsListIter it l i) (hl : s.heap.IsList l items) (hx : items[i]? = none)
    (hQ : ∀ h', Heap.ExtBut it s.heap h' → Q none { s with heap := h' }) : wpAny (model prog w) A (pyNext (.ref e)) Q E s := by
  rcases he with ⟨old, he⟩ | ⟨T, b, old, he, hT⟩
  · exact next_out_end hh he hit hl hx hQ
  · exact next_out_end hh he hit hl hx hQ
def enK (kf : Nat → K) (items : Array Value) (i : Nat) : List (K × Value) := (items.toList.take i).zipIdx.map fun p => (kf p.2, p.1)
theorem enK_succ (kf : Nat → K) {items : Array Value} {i : Nat} {x : Value} (h : items[i]? = some x) : enK kf items (i + 1) = enK kf items i ++ [(kf i, x)] := by
  unfold enK
  obtain ⟨il, rfl⟩ := Array.getElem?_eq_some_iff.mp h
  have il' : i < items.toList.length := by simpa using il
  rw [List.take_succ_eq_append_getElem il', List.zipIdx_append, List.map_append]
  congr 1
  simp only [List.length_take, Array.length_toList, List.zipIdx_singleton, List.map_cons, List.map_nil, Nat.zero_add]
  rw [Nat.min_eq_left (by omega)]
  simp
theorem enK_len (kf : Nat → K) {items : Array Value} {i : Nat} (h : i ≤ items.size) : (enK kf items i).length = i := by
  unfold enK; simp; omega
theorem enK_mem (kf : Nat → K) {items : Array Value} {i : Nat} {p : K × Value} (h : p ∈ enK kf items i) : ∃ j, j < i ∧ p.1 = kf j := by
  unfold enK at h
  obtain ⟨q, hq, rfl⟩ := List.mem_map.mp h
  have := List.mem_zipIdx hq
  simp at this
  exact ⟨q.2, by omega, rfl⟩
theorem dict_loop {R : Result → Shared → Prop} {d e it l : Addr} {items : Array Value} {kf : Nat → K} (inj : ∀ i j, kf i = kf j → i = j) (ik : ∀ (i : Nat) t, knd.is (kf i) (.int i t) = true) (hh : A.handled = none)
    (nde : d ≠ e) (ndi : d ≠ it) (hne : e ≠ it) (nle : l ≠ e) (nli : l ≠ it) (nld : l ≠ d) (hz : items.size ≤ sizeLine) :
    ∀ (k i : Nat) (s : Shared), items.size - i = k → i ≤ items.size → EnS s.heap e it i → s.heap.IsListIter it l i → s.heap.IsList l items → s.heap.DictOf knd d (enK kf items i) →
      (∀ h' tk, h'.DictOf knd d (enK kf items items.size) → (∀ b o, b ≠ d → b ≠ e → b ≠ it → s.heap.get? b = some o → h'.get? b = some o) → R (.ok (.ret .none)) { s with heap := h', toks := tk }) →
      codeAny (model prog w) A (.builtin "dict.update.loop" ⟨[.ref d, .ref e, .int i 0, .none], []⟩) R s := by
  intro k
  induction k with
  | zero =>
    intro i s hk hi he hit hl hd hR
    have hin : i = items.size := by omega
    subst hin
    refine codeAny_builtin entry_dul ?_
    rw [Around.under_plainId plain_dul _]
    show wpAny _ A.in1 (pyNext (.ref e) >>= _) _ _ s
    refine wpAny_bind (ens_end hh he hit hl (by simp) fun h' xb => ?_)
    show wpAny _ A.in1 (Builtin.Dict.addKeywords d [] >>= _) _ _ _
    refine wpAny_bind (wpAny_pure ?_)
    refine wpAny_pure (hR h' s.toks ?_ fun b o h1 h2 h3 e => xb b o h3 e)
    obtain ⟨o, es, ep, h1, r⟩ := hd
    exact ⟨o, es, ep, xb d o ndi h1, r⟩
  | succ k ih =>
    intro i s hk hi he hit hl hd hR
    have hlt : i < items.size := by omega
    have hx : items[i]? = some items[i] := Array.getElem?_eq_getElem hlt
    refine codeAny_builtin entry_dul ?_
    rw [Around.under_plainId plain_dul _]
    show wpAny _ A.in1 (pyNext (.ref e) >>= _) _ _ s
    refine wpAny_bind (ens_item he hit hl hx hne fun h1 he1 hit1 ht1 hz1 kp1 => ?_)
    refine wpAny_bind (wpAny_holding ?_)
    have tT : Shared.TypeIs { s with heap := h1, toks := s.toks + 1 } (.ref s.heap.objs.size) "tuple" := ⟨_, ht1, rfl⟩
    refine wpAny_bind (wpAny_tryCatch ?_)
    unfold Builtin.Dict.pairItems
    refine wpAny_bind (wpAny_typeOf tT ?_)
    rw [if_pos (by decide)]
    refine wpAny_bind (wpAny_seqItems ht1 rfl ?_)
    refine wpAny_pure ?_
    dsimp only [Option.getD_some]
    have od : ∃ o, s.heap.get? d = some o := let ⟨o, _, _, h, _⟩ := hd; ⟨o, h⟩
    have dl : d < s.heap.objs.size := let ⟨o, h⟩ := od; Heap.lt_size h
    have hd1 : h1.DictOf knd d (enK kf items i) := by
      obtain ⟨o, es, ep, g, r⟩ := hd
      exact ⟨o, es, ep, kp1 d o nde ndi g, r⟩
    refine wpAny_holding (wpAny_dictSet_pairs (s := { s with heap := h1, toks := s.toks + 1 }) (ik i s.toks) hd1 (fun h2 hd2 sb2 => ?_) (by rw [enK_len kf (by omega)]; omega))
    have st : stored (enK kf items i) (kf i) items[i] = enK kf items (i + 1) := by
      rw [enK_succ kf hx]
      unfold stored
      rw [if_neg]
      rw [List.any_eq_true]
      rintro ⟨p, m, h⟩
      obtain ⟨j, jl, ej⟩ := enK_mem kf m
      have h : p.1 = kf i := by simpa using h
      have := inj i j (h.symm.trans ej)
      omega
    rw [st] at hd2
    have ot : ∀ b o, b ≠ d → h1.get? b = some o → h2.get? b = some o := fun b o hb e => (sb2.2 b hb).trans e
    have el1 : e < s.heap.objs.size := let ⟨_, h⟩ := he.there; Heap.lt_size h
    refine wpAny_pure ⟨plainId_quiet plain_dul _, ?_⟩
    have he2 : EnS h2 e it (i + 1) := by
      rcases he1 with ⟨old, H⟩ | ⟨T, b, old, H, o, hT⟩
      · exact .inl ⟨old, ot e _ (Ne.symm nde) H⟩
      · refine .inr ⟨T, b, old, ot e _ (Ne.symm nde) H, ?_⟩
        by_cases z : T = d
        · rw [z]; exact let ⟨o, _, _, h, _⟩ := hd2; ⟨o, h⟩
        · exact ⟨o, ot T o z hT⟩
    refine ih (i + 1) _ (by omega) hlt he2 (hit1.at fun o h => ot it o (Ne.symm ndi) h) ((hl.at fun o h => kp1 l o nle nli h).at fun o h => ot l o nld h) hd2 fun h' tk hd' kp => ?_
    exact hR h' tk hd' fun b o h1 h2 h3 g => kp b o h1 h2 h3 (ot b o h1 (kp1 b o h2 h3 g))
end
end ST

namespace TM
open PySem PyProof.Rows
def gal : Bool → Keyed → Array Keyed → Nat → Nat → Nat → StateT SortSt Sem (Option Nat) := sortPriv% PySem.Builtin.gallop
def mLo : Array Keyed → Array Keyed → StateT SortSt Sem (Array Keyed) := sortPriv% PySem.Builtin.mergeLo
def mHi : Array Keyed → Array Keyed → StateT SortSt Sem (Array Keyed) := sortPriv% PySem.Builtin.mergeHi
def bey (l : Bool) (x : Keyed) (xs : Array Keyed) (i : Nat) : StateT SortSt Sem (Option Bool) := do
  let y ← elem' xs i
  if l then lt' y x else return (← lt' x y).map (!·)
def gtl (l : Bool) (x : Keyed) (xs : Array Keyed) (o n u0 v0 : Nat) : StateT SortSt Sem (Option Nat) := do
  let mut u := u0
  let mut v := v0
  for _ in [0:n] do
    if u ≥ v then break
    let m := u + (v - u) / 2
    let some c ← bey l x xs (o + m) | return none
    if c then u := m + 1 else v := m
  return some v
theorem gal_eq (l : Bool) (x : Keyed) (xs : Array Keyed) (o n h : Nat) : gal l x xs o n h = (do
  let mut p := 0
  let mut q := 1
  let some r ← bey l x xs (o + h) | return none
  if r then
    let M := n - h
    for _ in [0:n] do
      if q ≥ M then break
      let some c ← bey l x xs (o + (h + q)) | return none
      if !c then break
      p := q
      q := 2 * q + 1
    gtl l x xs o n (h + p + 1) (h + min q M)
  else
    let M := h + 1
    for _ in [0:n] do
      if q ≥ M then break
      let some c ← bey l x xs (o + (h - q)) | return none
      if c then break
      p := q
      q := 2 * q + 1
    gtl l x xs o n (h + 1 - min q M) (h - p)) := rfl
section
variable {prog : Program} {w : World} {A : Around} {E : Value → Shared → Prop} {s : Shared} {st : SortSt} {xs : Array Keyed} {x y : Keyed} {l : Bool} {o n h : Nat}
def kv (p : Keyed) : Int := numOf p.1
def IsK (p : Keyed) : Prop := ∃ n t, p.1 = .int n t
theorem K_kv {i : Nat} (hi : i < xs.size) : K xs i = kv xs[i] := by unfold K kv; rw [getElem?_pos xs i hi]
theorem wpS_lt {Q : Option Bool → SortSt → Prop} (hk : kindOf st = oneType') (hx : IsK x) (hy : IsK y) (h : Q (some (decide (kv x < kv y))) st) : wpS (model prog w) A E s (lt' x y) Q st := by
  obtain ⟨a, t, ea⟩ := hx
  obtain ⟨b, u, eb⟩ := hy
  have ka : kv x = a := by unfold kv; rw [ea]; rfl
  have kb : kv y = b := by unfold kv; rw [eb]; rfl
  rw [ka, kb] at h
  rw [lt'_eq]
  refine wpS_bind (wpS_get ?_)
  rw [hk, keyLt'_oneType, ea, eb]
  exact wpS_bind (wpS_lift (wpAny_attempt (oneLt_int ⟨rfl, wpS_pure h⟩)))
theorem wpS_elem {Q : Keyed → SortSt → Prop} {i : Nat} (hi : i < xs.size) (h : Q xs[i] st) : wpS (model prog w) A E s (elem' xs i) Q st := by
  rw [elem'_eq, getElem?_pos xs i hi]; exact wpS_pure h
def bp (l : Bool) (x : Keyed) (xs : Array Keyed) (i : Nat) : Bool := if l then decide (K xs i < kv x) else !decide (kv x < K xs i)
theorem wpS_bey {Q : Option Bool → SortSt → Prop} {i : Nat} (hk : kindOf st = oneType') (hI : ∀ i (h : i < xs.size), IsK xs[i]) (hx : IsK x) (hi : i < xs.size) (h : Q (some (bp l x xs i)) st) : wpS (model prog w) A E s (bey l x xs i) Q st := by
  unfold bey
  refine wpS_bind (wpS_elem hi ?_)
  unfold bp at h
  rw [K_kv hi] at h
  cases l with
  | true => exact wpS_lt hk (hI i hi) hx h
  | false => exact wpS_bind (wpS_lt hk hx (hI i hi) (wpS_pure h))
theorem wpS_gal {Q : Option Nat → SortSt → Prop} (hk : kindOf st = oneType') (hI : ∀ i (h : i < xs.size), IsK xs[i]) (hx : IsK x) (hn : o + n ≤ xs.size) (hh : h < n)
    (mono : ∀ i j, i ≤ j → j < n → bp l x xs (o + j) = true → bp l x xs (o + i) = true)
    (hQ : ∀ k, k ≤ n → (∀ i, i < k → bp l x xs (o + i) = true) → (∀ i, k ≤ i → i < n → bp l x xs (o + i) = false) → Q (some k) st) : wpS (model prog w) A E s (gal l x xs o n h) Q st := by
  have antimono : ∀ i j, i ≤ j → j < n → bp l x xs (o + i) = false → bp l x xs (o + j) = false := fun i j ij jn hf => by
    cases e : bp l x xs (o + j) with
    | false => rfl
    | true => rw [mono i j ij jn e] at hf; cases hf
  have tail : ∀ u v, u ≤ v → v ≤ n → (∀ i, i < u → bp l x xs (o + i) = true) → (∀ i, v ≤ i → i < n → bp l x xs (o + i) = false) →
      wpS (model prog w) A E s (gtl l x xs o n u v) Q st := fun u v uv vn ht hf => by
    unfold gtl
    dsimp only
    refine wpS_bind (wpS_mono (wpS_forRange (I := fun i c st' => st' = st ∧ ∃ u v, c = (none, u, v) ∧ u ≤ v ∧ v ≤ n ∧ v - u ≤ n - i ∧ (∀ i, i < u → bp l x xs (o + i) = true) ∧ (∀ i, v ≤ i → i < n → bp l x xs (o + i) = false))
      (Q := fun c st' => st' = st ∧ ∃ v, c.1 = none ∧ c.2.2 = v ∧ v ≤ n ∧ (∀ i, i < v → bp l x xs (o + i) = true) ∧ (∀ i, v ≤ i → i < n → bp l x xs (o + i) = false)) ?_ ?_ ⟨rfl, u, v, rfl, uv, vn, by omega, ht, hf⟩) ?_)
    · rintro i c st' _ hi ⟨rfl, u, v, rfl, uv, vn, d, ht, hf⟩
      dsimp only
      by_cases c0 : u ≥ v
      · rw [if_pos c0]
        have : u = v := by omega
        subst this
        exact wpS_pure ⟨rfl, u, rfl, rfl, vn, ht, hf⟩
      · rw [if_neg c0]
        refine wpS_bind (wpS_bey hk hI hx (by omega) ?_)
        dsimp only
        cases e : bp l x xs (o + (u + (v - u) / 2)) with
        | true =>
          rw [if_pos rfl]
          exact wpS_pure ⟨rfl, _, v, rfl, by omega, vn, by omega, fun j hj => mono j (u + (v - u) / 2) (by omega) (by omega) e, hf⟩
        | false =>
          rw [if_neg (by simp)]
          exact wpS_pure ⟨rfl, u, _, rfl, by omega, by omega, by omega, ht, fun j h1 h2 => antimono (u + (v - u) / 2) j h1 h2 e⟩
    · rintro c st' ⟨rfl, u, v, rfl, uv, vn, d, ht, hf⟩
      have : u = v := by omega
      subst this
      exact ⟨rfl, u, rfl, rfl, vn, ht, hf⟩
    · rintro ⟨r, u', v'⟩ st' ⟨rfl, v, e1, e2, vn, ht, hf⟩
      dsimp only at e1 e2
      subst e1 e2
      exact wpS_pure (hQ v' vn ht hf)
  rw [gal_eq]
  dsimp only
  refine wpS_bind (wpS_bey hk hI hx (by omega) ?_)
  dsimp only
  cases e0 : bp l x xs (o + h) with
  | true =>
    rw [if_pos rfl]
    refine wpS_bind (wpS_mono (wpS_forRange (I := fun i c st' => st' = st ∧ ∃ p q, c = (none, p, q) ∧ p < q ∧ i < q ∧ h + p < n ∧ bp l x xs (o + (h + p)) = true)
      (Q := fun c st' => st' = st ∧ ∃ p q, c = (none, p, q) ∧ p < q ∧ h + p < n ∧ bp l x xs (o + (h + p)) = true ∧ (q ≥ n - h ∨ bp l x xs (o + (h + q)) = false)) ?_ ?_ ⟨rfl, 0, 1, rfl, by omega, by omega, hh, e0⟩) ?_)
    · rintro i c st' _ hi ⟨rfl, p, q, rfl, pq, iq, pn, hp⟩
      dsimp only
      by_cases c0 : q ≥ n - h
      · rw [if_pos c0]; exact wpS_pure ⟨rfl, p, q, rfl, pq, pn, hp, .inl c0⟩
      · rw [if_neg c0]
        refine wpS_bind (wpS_bey hk hI hx (by omega) ?_)
        dsimp only
        cases e : bp l x xs (o + (h + q)) with
        | true =>
          rw [if_neg (by simp)]
          exact wpS_pure ⟨rfl, q, _, rfl, by omega, by omega, by omega, e⟩
        | false =>
          rw [if_pos (by simp)]
          exact wpS_pure ⟨rfl, p, q, rfl, pq, pn, hp, .inr e⟩
    · rintro c st' ⟨rfl, p, q, rfl, pq, iq, pn, hp⟩
      exact ⟨rfl, p, q, rfl, pq, pn, hp, .inl (by omega)⟩
    · rintro c st' ⟨rfl, p, q, rfl, pq, pn, hp, hq⟩
      dsimp only
      refine tail (h + p + 1) (h + min q (n - h)) (by rcases hq with z | z <;> simp only [Nat.min_def] <;> split <;> omega) (by simp only [Nat.min_def]; split <;> omega) (fun i hi => mono i (h + p) (by omega) pn hp) fun i h1 h2 => ?_
      simp only [Nat.min_def] at h1
      rcases hq with hq | hq
      · split at h1 <;> omega
      · by_cases c1 : q ≤ n - h
        · rw [if_pos c1] at h1; exact antimono (h + q) i (by omega) h2 hq
        · rw [if_neg c1] at h1; omega
  | false =>
    rw [if_neg (by simp)]
    refine wpS_bind (wpS_mono (wpS_forRange (I := fun i c st' => st' = st ∧ ∃ p q, c = (none, p, q) ∧ p < q ∧ i < q ∧ p ≤ h ∧ bp l x xs (o + (h - p)) = false)
      (Q := fun c st' => st' = st ∧ ∃ p q, c = (none, p, q) ∧ p < q ∧ p ≤ h ∧ bp l x xs (o + (h - p)) = false ∧ (q ≥ h + 1 ∨ q ≤ h ∧ bp l x xs (o + (h - q)) = true)) ?_ ?_ ⟨rfl, 0, 1, rfl, by omega, by omega, by omega, e0⟩) ?_)
    · rintro i c st' _ hi ⟨rfl, p, q, rfl, pq, iq, pn, hp⟩
      dsimp only
      by_cases c0 : q ≥ h + 1
      · rw [if_pos c0]; exact wpS_pure ⟨rfl, p, q, rfl, pq, pn, hp, .inl c0⟩
      · rw [if_neg c0]
        refine wpS_bind (wpS_bey hk hI hx (by omega) ?_)
        dsimp only
        cases e : bp l x xs (o + (h - q)) with
        | true =>
          rw [if_pos rfl]
          exact wpS_pure ⟨rfl, p, q, rfl, pq, pn, hp, .inr ⟨by omega, e⟩⟩
        | false =>
          rw [if_neg (by simp)]
          exact wpS_pure ⟨rfl, q, _, rfl, by omega, by omega, by omega, e⟩
    · rintro c st' ⟨rfl, p, q, rfl, pq, iq, pn, hp⟩
      exact ⟨rfl, p, q, rfl, pq, pn, hp, .inl (by omega)⟩
    · rintro c st' ⟨rfl, p, q, rfl, pq, pn, hp, hq⟩
      dsimp only
      refine tail (h + 1 - min q (h + 1)) (h - p) (by simp only [Nat.min_def]; split <;> omega) (by omega) (fun i hi => ?_) fun i h1 h2 => antimono (h - p) i h1 h2 hp
      simp only [Nat.min_def] at hi
      rcases hq with hq | ⟨hq, e⟩
      · split at hi <;> omega
      · rw [if_pos (by omega)] at hi; exact mono i (h - q) (by omega) (by omega) e
end
end TM

namespace TM
open PySem PyProof.Rows
abbrev Le (p q : Keyed) : Prop := kv p ≤ kv q
structure MI (la lb R : List Keyed) (i j : Nat) : Prop where
  pm : (R ++ la.drop i ++ lb.drop j).Perm (la ++ lb)
  so : R.Pairwise Le
  ra : ∀ p ∈ R, ∀ q ∈ la.drop i, Le p q
  rb : ∀ p ∈ R, ∀ q ∈ lb.drop j, Le p q
def OKR (la lb R : List Keyed) : Prop := R.Perm (la ++ lb) ∧ R.Pairwise Le
section
variable {la lb R T : List Keyed} {i j k : Nat}
theorem MI.pa (M : MI la lb R i j) (sa : la.Pairwise Le) (h : ∀ q ∈ (la.drop i).take k, ∀ p ∈ lb.drop j, Le q p) : MI la lb (R ++ (la.drop i).take k) (i + k) j := by
  have e : (la.drop i).take k ++ la.drop (i + k) = la.drop i := by rw [← List.drop_drop]; exact List.take_append_drop k _
  have sd : (la.drop i).Pairwise Le := sa.sublist (List.drop_sublist _ _)
  rw [← e] at sd
  obtain ⟨s1, s2, s3⟩ := List.pairwise_append.mp sd
  refine ⟨?_, List.pairwise_append.mpr ⟨M.so, s1, fun p hp q hq => M.ra p hp q (by rw [← e]; exact List.mem_append_left _ hq)⟩, fun p hp q hq => ?_, fun p hp q hq => ?_⟩
  · have := M.pm
    rw [← e, ← List.append_assoc] at this
    exact this
  · rcases List.mem_append.mp hp with z | z
    · exact M.ra p z q (by rw [← e]; exact List.mem_append_right _ hq)
    · exact s3 p z q hq
  · rcases List.mem_append.mp hp with z | z
    · exact M.rb p z q hq
    · exact h p z q hq
theorem MI.pb (M : MI la lb R i j) (sb : lb.Pairwise Le) (h : ∀ q ∈ (lb.drop j).take k, ∀ p ∈ la.drop i, Le q p) : MI la lb (R ++ (lb.drop j).take k) i (j + k) := by
  have e : (lb.drop j).take k ++ lb.drop (j + k) = lb.drop j := by rw [← List.drop_drop]; exact List.take_append_drop k _
  have sd : (lb.drop j).Pairwise Le := sb.sublist (List.drop_sublist _ _)
  rw [← e] at sd
  obtain ⟨s1, s2, s3⟩ := List.pairwise_append.mp sd
  refine ⟨?_, List.pairwise_append.mpr ⟨M.so, s1, fun p hp q hq => M.rb p hp q (by rw [← e]; exact List.mem_append_left _ hq)⟩, fun p hp q hq => ?_, fun p hp q hq => ?_⟩
  · refine List.Perm.trans ?_ M.pm
    have e2 : R ++ la.drop i ++ lb.drop j = R ++ la.drop i ++ ((lb.drop j).take k ++ lb.drop (j + k)) := by rw [e]
    rw [e2, List.append_assoc, List.append_assoc, List.append_assoc]
    refine List.Perm.append_left R ?_
    rw [← List.append_assoc, ← List.append_assoc]
    exact List.Perm.append_right _ List.perm_append_comm
  · rcases List.mem_append.mp hp with z | z
    · exact M.ra p z q hq
    · exact h p z q hq
  · rcases List.mem_append.mp hp with z | z
    · exact M.rb p z q (by rw [← e]; exact List.mem_append_right _ hq)
    · exact s3 p z q hq
theorem MI.len (M : MI la lb R i j) (hi : i ≤ la.length) (hj : j ≤ lb.length) : R.length + (la.length - i) + (lb.length - j) = la.length + lb.length := by
  have := M.pm.length_eq
  rw [List.length_append, List.length_append, List.length_append, List.length_drop, List.length_drop] at this
  exact this
theorem MI.dn (M : MI la lb R i j) (sa : la.Pairwise Le) (hj : lb.length ≤ j) : OKR la lb (R ++ la.drop i ++ lb.drop j) := by
  refine ⟨M.pm, ?_⟩
  rw [List.drop_eq_nil_of_le hj, List.append_nil]
  exact List.pairwise_append.mpr ⟨M.so, sa.sublist (List.drop_sublist _ _), M.ra⟩
theorem MI.ld (M : MI la lb R i j) (sb : lb.Pairwise Le) (hi : i + 1 = la.length) (h : ∀ p ∈ lb, ∀ q ∈ la.drop i, Le p q) : OKR la lb (R ++ lb.drop j ++ la.drop i) := by
  refine ⟨?_, ?_⟩
  · refine List.Perm.trans ?_ M.pm
    rw [List.append_assoc, List.append_assoc]
    exact List.Perm.append_left R List.perm_append_comm
  · refine List.pairwise_append.mpr ⟨List.pairwise_append.mpr ⟨M.so, sb.sublist (List.drop_sublist _ _), M.rb⟩, ?_, fun p hp q hq => ?_⟩
    · have hl : (la.drop i).length = 1 := by rw [List.length_drop]; omega
      obtain ⟨x, e⟩ := List.length_eq_one_iff.mp hl
      rw [e]; exact List.pairwise_singleton _ _
    · rcases List.mem_append.mp hp with z | z
      · exact M.ra p z q hq
      · exact h p (List.mem_of_mem_drop z) q hq
end
abbrev setG (g : Nat) : StateT SortSt Sem PUnit := modify fun s => SortSt.mk' (kindOf s) (arrOf s) (pendingOf s) g (failedOf s)
def dn (a b r : Array Keyed) (i j : Nat) := r ++ a.extract i a.size ++ b.extract j b.size
def ld (a b r : Array Keyed) (i j : Nat) := r ++ b.extract j b.size ++ a.extract i a.size
abbrev L5 := Option (Array Keyed) × Array Keyed × Nat × Nat × Nat
abbrev L6 := Option (Array Keyed) × Array Keyed × Nat × Nat × Nat × Nat
abbrev L7 := Option (Array Keyed) × Array Keyed × Nat × Nat × Nat × Nat × Nat
def h3 (a b r : Array Keyed) (i j g c d : Nat) : StateT SortSt Sem (ForInStep L7) := do
  let x ← elem' a i
  if (i + 1 + 1 == a.size) = true then pure (.done (some (ld a b (r.push x) (i + 1) j), r.push x, i + 1, j, g, c, d))
  else if (decide (c < 7) && decide (d < 7)) = true then pure (.done (none, r.push x, i + 1, j, g, c, d)) else pure (.yield (none, r.push x, i + 1, j, g, c, d))
def h2 (a b r : Array Keyed) (i j g c d : Nat) : StateT SortSt Sem (ForInStep L7) := do
  let x ← elem' b j
  if (j + 1 == b.size) = true then pure (.done (some (dn a b (r.push x) i (j + 1)), r.push x, i, j + 1, g, c, d))
  else do
    let y ← elem' a i
    let some k ← gal true y b (j + 1) (b.size - (j + 1)) 0 | pure (.done (some (dn a b (r.push x) i (j + 1)), r.push x, i, j + 1, g, c, d))
    if k > 0 then
        if (j + 1 + k == b.size) = true then pure (.done (some (dn a b (r.push x ++ b.extract (j + 1) (j + 1 + k)) i (j + 1 + k)), r.push x ++ b.extract (j + 1) (j + 1 + k), i, j + 1 + k, g, c, k))
        else h3 a b (r.push x ++ b.extract (j + 1) (j + 1 + k)) i (j + 1 + k) g c k
    else h3 a b (r.push x) i (j + 1) g c k
def h1 (a b r : Array Keyed) (i j g c d : Nat) : StateT SortSt Sem (ForInStep L7) := do
  setG g
  let x ← elem' b j
  let some k ← gal false x a i (a.size - i) 0 | pure (.done (some (dn a b r i j), r, i, j, g, c, d))
  if k > 0 then
      if (i + k + 1 == a.size) = true then pure (.done (some (ld a b (r ++ a.extract i (i + k)) (i + k) j), r ++ a.extract i (i + k), i + k, j, g, k, d))
      else if (i + k == a.size) = true then pure (.done (some (dn a b (r ++ a.extract i (i + k)) (i + k) j), r ++ a.extract i (i + k), i + k, j, g, k, d))
      else h2 a b (r ++ a.extract i (i + k)) (i + k) j g k d
  else h2 a b r i j g k d
def f1 (a b : Array Keyed) (g : Nat) (r : Array Keyed) (i j c d : Nat) : StateT SortSt Sem (ForInStep L6) := do
  let x ← elem' b j
  let y ← elem' a i
  let some t ← lt' x y | pure (.done (some (dn a b r i j), r, i, j, c, d))
  if t = true then do
      let x ← elem' b j
      if (j + 1 == b.size) = true then pure (.done (some (dn a b (r.push x) i (j + 1)), r.push x, i, j + 1, 0, d + 1))
      else if d + 1 ≥ g then pure (.done (none, r.push x, i, j + 1, 0, d + 1)) else pure (.yield (none, r.push x, i, j + 1, 0, d + 1))
  else do
      let y ← elem' a i
      if (i + 1 + 1 == a.size) = true then pure (.done (some (ld a b (r.push y) (i + 1) j), r.push y, i + 1, j, c + 1, 0))
      else if c + 1 ≥ g then pure (.done (none, r.push y, i + 1, j, c + 1, 0)) else pure (.yield (none, r.push y, i + 1, j, c + 1, 0))
theorem mLo_eq0 (a b : Array Keyed) : mLo a b = (do
  rule "list.sort.merge-lo"
  let N := a.size + b.size
  let mut r : Array Keyed := #[← elem' b 0]
  let mut i := 0
  let mut j := 1
  if j == b.size then return dn a b r i j
  if i + 1 == a.size then return ld a b r i j
  let mut g := gallopOf (← get)
  for _ in [0:N] do
    let mut c := 0
    let mut d := 0
    for _ in [0:N] do
      let some z ← lt' (← elem' b j) (← elem' a i) | return dn a b r i j
      if z then
        r := r.push (← elem' b j); j := j + 1; d := d + 1; c := 0
        if j == b.size then return dn a b r i j
        if d ≥ g then break
      else
        r := r.push (← elem' a i); i := i + 1; c := c + 1; d := 0
        if i + 1 == a.size then return ld a b r i j
        if c ≥ g then break
    rule "list.sort.gallop"
    g := g + 1
    for _ in [0:N] do
      if g > 1 then g := g - 1
      setG g
      let some k ← gal false (← elem' b j) a i (a.size - i) 0 | return dn a b r i j
      c := k
      if k > 0 then
        r := r ++ a.extract i (i + k); i := i + k
        if i + 1 == a.size then return ld a b r i j
        if i == a.size then return dn a b r i j
      r := r.push (← elem' b j); j := j + 1
      if j == b.size then return dn a b r i j
      let some k ← gal true (← elem' a i) b j (b.size - j) 0 | return dn a b r i j
      d := k
      if k > 0 then
        r := r ++ b.extract j (j + k); j := j + k
        if j == b.size then return dn a b r i j
      r := r.push (← elem' a i); i := i + 1
      if i + 1 == a.size then return ld a b r i j
      if c < 7 && d < 7 then break
    g := g + 1
    setG g
  unsupported "internal:list.sort.merge-bound") := rfl
theorem mLo_eq (a b : Array Keyed) : mLo a b = (do
  rule "list.sort.merge-lo"
  let x ← elem' b 0
  if (1 == b.size) = true then pure (dn a b #[x] 0 1)
  else if (0 + 1 == a.size) = true then pure (ld a b #[x] 0 1)
  else do
    let st ← get
    let t ← forIn [0:a.size + b.size] ((none, #[x], 0, 1, gallopOf st) : L5) fun _ t => do
      let u ← forIn [0:a.size + b.size] ((none, t.2.1, t.2.2.1, t.2.2.2.1, 0, 0) : L6) fun _ u => f1 a b t.2.2.2.2 u.2.1 u.2.2.1 u.2.2.2.1 u.2.2.2.2.1 u.2.2.2.2.2
      match u.1 with
      | some r => pure (ForInStep.done (some r, u.2.1, u.2.2.1, u.2.2.2.1, t.2.2.2.2))
      | none => do
        rule "list.sort.gallop"
        let v ← forIn [0:a.size + b.size] ((none, u.2.1, u.2.2.1, u.2.2.2.1, t.2.2.2.2 + 1, u.2.2.2.2.1, u.2.2.2.2.2) : L7) fun _ v =>
          if v.2.2.2.2.1 > 1 then h1 a b v.2.1 v.2.2.1 v.2.2.2.1 (v.2.2.2.2.1 - 1) v.2.2.2.2.2.1 v.2.2.2.2.2.2
          else h1 a b v.2.1 v.2.2.1 v.2.2.2.1 v.2.2.2.2.1 v.2.2.2.2.2.1 v.2.2.2.2.2.2
        match v.1 with
        | some r => pure (ForInStep.done (some r, v.2.1, v.2.2.1, v.2.2.2.1, v.2.2.2.2.1))
        | none => do
          setG (v.2.2.2.2.1 + 1)
          pure (ForInStep.yield (none, v.2.1, v.2.2.1, v.2.2.2.1, v.2.2.2.2.1 + 1))
    match t.1 with
    | some r => pure r
    | none => unsupported "internal:list.sort.merge-bound") := by
  rw [mLo_eq0]
  dsimp only
  congr 1; funext _
  congr 1; funext x
  congr 1
  congr 1
  congr 1; funext st
  congr 1
  · congr 1; funext _ t
    congr 1
    funext u
    cases h : u.1 with
    | some r => rfl
    | none =>
      dsimp only
      congr 1; funext _
      congr 1
      funext v
      cases h2 : v.1 with
      | some r => rfl
      | none => rfl
  · funext t
    cases t.1 with
    | some r => rfl
    | none => rfl
end TM

namespace TM
open PySem PyProof.Rows
section
variable {l : List Keyed} {a b r : Array Keyed} {i j k : Nat}
theorem head_le (s : l.Pairwise Le) (h : j < l.length) : ∀ p ∈ l.drop j, Le l[j] p := by
  have sd : (l.drop j).Pairwise Le := s.sublist (List.drop_sublist _ _)
  rw [List.drop_eq_getElem_cons h] at sd ⊢
  intro p hp
  rcases List.mem_cons.mp hp with rfl | z
  · exact Int.le_refl _
  · exact (List.pairwise_cons.mp sd).1 p z
theorem mem_chunk {q : Keyed} (h : q ∈ (l.drop i).take k) : ∃ t, t < k ∧ l[i + t]? = some q := by
  obtain ⟨t, ht⟩ := List.mem_iff_getElem?.mp h
  rw [List.getElem?_take] at ht
  by_cases c : t < k
  · rw [if_pos c, List.getElem?_drop] at ht; exact ⟨t, c, ht⟩
  · rw [if_neg c] at ht; cases ht
theorem chunk_toList : (r ++ a.extract i (i + k)).toList = r.toList ++ (a.toList.drop i).take k := by
  rw [Array.toList_append, Array.toList_extract, List.extract_eq_take_drop, Nat.add_sub_cancel_left]
theorem dn_toList : (dn a b r i j).toList = r.toList ++ a.toList.drop i ++ b.toList.drop j := by
  have e : ∀ (x : Array Keyed) n, (x.extract n x.size).toList = x.toList.drop n := fun x n => by
    rw [Array.toList_extract, List.extract_eq_take_drop, List.take_of_length_le]
    rw [List.length_drop]; exact Nat.le_refl _
  unfold dn
  rw [Array.toList_append, Array.toList_append, e, e]
theorem ld_toList : (ld a b r i j).toList = r.toList ++ b.toList.drop j ++ a.toList.drop i := dn_toList
theorem one_chunk (h : i < a.size) : (r.push a[i]).toList = r.toList ++ (a.toList.drop i).take 1 := by
  have h' : i < a.toList.length := h
  rw [Array.toList_push, List.drop_eq_getElem_cons h']; rfl
structure MP (a b : Array Keyed) : Prop where
  ka : ∀ i (h : i < a.size), IsK a[i]
  kb : ∀ i (h : i < b.size), IsK b[i]
  sa : a.toList.Pairwise Le
  sb : b.toList.Pairwise Le
  na : 0 < a.size
  nb : 0 < b.size
  fi : ∀ q ∈ a.toList, kv b[0] < kv q
  la : ∀ p ∈ b.toList, kv p < kv a[a.size - 1]
theorem MP.last (P : MP a b) (h : i + 1 = a.size) : ∀ p ∈ b.toList, ∀ q ∈ a.toList.drop i, Le p q := fun p hp q hq => by
  have hl : i < a.toList.length := by show i < a.size; omega
  rw [List.drop_eq_getElem_cons hl, List.drop_eq_nil_of_le (by show a.size ≤ i + 1; omega)] at hq
  rw [List.mem_singleton.mp hq]
  have := P.la p hp
  have e : a[a.size - 1]'(by have := P.na; omega) = a.toList[i] := by
    rw [Array.getElem_toList]; congr 1; omega
  rw [e] at this
  exact Int.le_of_lt this
abbrev MA (a b r : Array Keyed) (i j : Nat) : Prop := MI a.toList b.toList r.toList i j
theorem MP.chA (P : MP a b) (M : MA a b r i j) (hj : j < b.size) (h : ∀ t, t < k → i + t < a.size → K a (i + t) ≤ kv b[j]) : MA a b (r ++ a.extract i (i + k)) (i + k) j := by
  unfold MA
  rw [chunk_toList]
  refine MI.pa M P.sa fun q hq p hp => ?_
  obtain ⟨t, ht, e⟩ := mem_chunk hq
  obtain ⟨hl, rfl⟩ := List.getElem?_eq_some_iff.mp e
  have h1 := h t ht hl
  rw [K_kv hl] at h1
  exact Int.le_trans h1 (head_le P.sb hj p hp)
theorem MP.chB (P : MP a b) (M : MA a b r i j) (hi : i < a.size) (h : ∀ t, t < k → j + t < b.size → K b (j + t) ≤ kv a[i]) : MA a b (r ++ b.extract j (j + k)) i (j + k) := by
  unfold MA
  rw [chunk_toList]
  refine MI.pb M P.sb fun q hq p hp => ?_
  obtain ⟨t, ht, e⟩ := mem_chunk hq
  obtain ⟨hl, rfl⟩ := List.getElem?_eq_some_iff.mp e
  have h1 := h t ht hl
  rw [K_kv hl] at h1
  exact Int.le_trans h1 (head_le P.sa hi p hp)
theorem MP.puA (P : MP a b) (M : MA a b r i j) (hi : i < a.size) (hj : j < b.size) (h : Le a[i] b[j]) : MA a b (r.push a[i]) (i + 1) j := by
  unfold MA
  rw [one_chunk hi, ← chunk_toList]
  exact P.chA M hj fun t ht _ => by have : t = 0 := by omega
                                    subst this; show K a i ≤ _; rw [K_kv hi]; exact h
theorem MP.puB (P : MP a b) (M : MA a b r i j) (hi : i < a.size) (hj : j < b.size) (h : Le b[j] a[i]) : MA a b (r.push b[j]) i (j + 1) := by
  unfold MA
  rw [one_chunk hj, ← chunk_toList]
  exact P.chB M hi fun t ht _ => by have : t = 0 := by omega
                                    subst this; show K b j ≤ _; rw [K_kv hj]; exact h
theorem K_mono {xs : Array Keyed} (s : xs.toList.Pairwise Le) {i j : Nat} (ij : i ≤ j) (hj : j < xs.size) : K xs i ≤ K xs j := by
  rw [K_kv hj, K_kv (show i < xs.size by omega)]
  rcases Nat.lt_or_eq_of_le ij with c | rfl
  · exact List.pairwise_iff_getElem.mp s i j (show i < xs.size by omega) hj c
  · exact Int.le_refl _
def Sg (st st' : SortSt) : Prop := kindOf st' = kindOf st ∧ arrOf st' = arrOf st ∧ pendingOf st' = pendingOf st ∧ failedOf st' = failedOf st
theorem Sg.refl (st : SortSt) : Sg st st := ⟨rfl, rfl, rfl, rfl⟩
end
section
variable {prog : Program} {w : World} {A : Around} {E : Value → Shared → Prop} {s : Shared} {st st' : SortSt} {a b r : Array Keyed} {i j g c d n : Nat}
abbrev Ok7 (a b : Array Keyed) (st : SortSt) (n : Nat) (v : L7) (st' : SortSt) : Prop := Sg st st' ∧ v.1 = none ∧ MA a b v.2.1 v.2.2.1 v.2.2.2.1 ∧ v.2.2.1 + 1 < a.size ∧ v.2.2.2.1 < b.size ∧ n < v.2.1.size
abbrev Fn7 (a b : Array Keyed) (st : SortSt) (v : L7) (st' : SortSt) : Prop := Sg st st' ∧ ∃ x, v.1 = some x ∧ OKR a.toList b.toList x.toList
abbrev Bo7 (a b : Array Keyed) (st : SortSt) (n : Nat) (z : ForInStep L7) (st' : SortSt) : Prop := match z with | .done v => Ok7 a b st n v st' ∨ Fn7 a b st v st' | .yield v => Ok7 a b st n v st'
theorem wp_h3 (hk : kindOf st = oneType') (P : MP a b) (G : Sg st st') (M : MA a b r i j) (hi : i + 1 < a.size) (hj : j < b.size) (hl : Le a[i] b[j]) (hn : n < r.size) :
    wpS (model prog w) A E s (h3 a b r i j g c d) (Bo7 a b st n) st' := by
  unfold h3
  refine wpS_bind (wpS_elem (by omega) ?_)
  have M' := P.puA M (by omega) hj hl
  have hs : n < (r.push a[i]).size := by rw [Array.size_push]; omega
  by_cases c0 : i + 1 + 1 = a.size
  · rw [if_pos (by simpa using c0)]
    exact wpS_pure (.inr ⟨G, _, rfl, by rw [ld_toList]; exact M'.ld P.sb c0 (P.last c0)⟩)
  · rw [if_neg (by simpa using c0)]
    split
    · exact wpS_pure (.inl ⟨G, rfl, M', by show i + 1 + 1 < a.size; omega, hj, hs⟩)
    · exact wpS_pure ⟨G, rfl, M', by show i + 1 + 1 < a.size; omega, hj, hs⟩
theorem wp_h2 (hk : kindOf st = oneType') (P : MP a b) (G : Sg st st') (M : MA a b r i j) (hi : i + 1 < a.size) (hj : j < b.size) (hl : Le b[j] a[i]) (hn : n < r.size) :
    wpS (model prog w) A E s (h2 a b r i j g c d) (Bo7 a b st n) st' := by
  unfold h2
  refine wpS_bind (wpS_elem hj ?_)
  have M' := P.puB M (by omega) hj hl
  have hs : n < (r.push b[j]).size := by rw [Array.size_push]; omega
  by_cases c0 : j + 1 = b.size
  · rw [if_pos (by simpa using c0)]
    exact wpS_pure (.inr ⟨G, _, rfl, by rw [dn_toList]; exact M'.dn P.sa (by show b.size ≤ j + 1; omega)⟩)
  · rw [if_neg (by simpa using c0)]
    refine wpS_bind (wpS_elem (by omega) ?_)
    have ia : i < a.size := by omega
    refine wpS_bind (wpS_gal (by rw [G.1]; exact hk) P.kb (P.ka i ia) (by omega) (by omega) (fun t u tu un h => ?_) fun k kn h1 h2 => ?_)
    · simp only [bp, if_true, decide_eq_true_eq] at h ⊢
      exact Int.lt_of_le_of_lt (K_mono P.sb (by omega) (by omega)) h
    · have e1 : ∀ t, t < k → K b (j + 1 + t) < kv a[i] := fun t ht => by have := h1 t ht; simp only [bp, if_true, decide_eq_true_eq] at this; exact this
      have e2 : ∀ (h : j + 1 + k < b.size), Le a[i] b[j + 1 + k] := fun h => by
        have := h2 k (Nat.le_refl _) (by omega)
        simp only [bp, if_true, decide_eq_false_iff_not] at this
        rw [K_kv h] at this; exact Int.not_lt.mp this
      dsimp only
      by_cases ck : k > 0
      · rw [if_pos ck]
        have M2 := P.chB (k := k) M' ia fun t ht _ => Int.le_of_lt (e1 t ht)
        have hs2 : n < (r.push b[j] ++ b.extract (j + 1) (j + 1 + k)).size := by rw [Array.size_append]; omega
        by_cases c1 : j + 1 + k = b.size
        · rw [if_pos (by simpa using c1)]
          exact wpS_pure (.inr ⟨G, _, rfl, by rw [dn_toList]; exact M2.dn P.sa (by show b.size ≤ j + 1 + k; omega)⟩)
        · rw [if_neg (by simpa using c1)]
          exact wp_h3 hk P G M2 hi (by omega) (e2 (by omega)) hs2
      · rw [if_neg ck]
        have k0 : k = 0 := by omega
        subst k0
        exact wp_h3 hk P G M' hi (by omega) (e2 (by omega)) hs
theorem wp_h1 (hk : kindOf st = oneType') (P : MP a b) (G : Sg st st') (M : MA a b r i j) (hi : i + 1 < a.size) (hj : j < b.size) (hn : n < r.size) :
    wpS (model prog w) A E s (h1 a b r i j g c d) (Bo7 a b st n) st' := by
  unfold h1
  refine wpS_bind (wpS_modify ?_)
  have G' : Sg st (SortSt.mk' (kindOf st') (arrOf st') (pendingOf st') g (failedOf st')) := G
  refine wpS_bind (wpS_elem hj ?_)
  refine wpS_bind (wpS_gal (by exact G.1.trans hk) P.ka (P.kb j hj) (by omega) (by omega) (fun t u tu un h => ?_) fun k kn h1 h2 => ?_)
  · simp only [bp, Bool.false_eq_true, if_false, Bool.not_eq_true', decide_eq_false_iff_not, Int.not_lt] at h ⊢
    exact Int.le_trans (K_mono P.sa (by omega) (by omega)) h
  · have e1 : ∀ t, t < k → K a (i + t) ≤ kv b[j] := fun t ht => by
      have := h1 t ht
      simp only [bp, Bool.false_eq_true, if_false, Bool.not_eq_true', decide_eq_false_iff_not, Int.not_lt] at this; exact this
    have kl : i + k < a.size := by
      apply Classical.byContradiction
      intro z
      have h3 := e1 (a.size - 1 - i) (by omega)
      rw [show i + (a.size - 1 - i) = a.size - 1 by omega, K_kv (by omega)] at h3
      have h4 := P.la b[j] (Array.getElem_mem_toList hj)
      omega
    have e2 : Le b[j] (a[i + k]'kl) := by
      have := h2 k (Nat.le_refl _) (by omega)
      simp only [bp, Bool.false_eq_true, if_false, Bool.not_eq_false', decide_eq_true_eq] at this
      rw [K_kv kl] at this; exact Int.le_of_lt this
    dsimp only
    by_cases ck : k > 0
    · rw [if_pos ck]
      have M2 := P.chA (k := k) M hj fun t ht _ => e1 t ht
      have hs2 : n < (r ++ a.extract i (i + k)).size := by rw [Array.size_append]; omega
      by_cases c1 : i + k + 1 = a.size
      · rw [if_pos (by simpa using c1)]
        exact wpS_pure (.inr ⟨G', _, rfl, by rw [ld_toList]; exact M2.ld P.sb c1 (P.last c1)⟩)
      · rw [if_neg (by simpa using c1), if_neg (by simpa using Nat.ne_of_lt kl)]
        exact wp_h2 hk P G' M2 (by omega) hj e2 hs2
    · rw [if_neg ck]
      have k0 : k = 0 := by omega
      subst k0
      exact wp_h2 hk P G' M hi hj e2 hn
abbrev Ok6 (a b : Array Keyed) (st : SortSt) (n : Nat) (v : L6) (st' : SortSt) : Prop := st' = st ∧ v.1 = none ∧ MA a b v.2.1 v.2.2.1 v.2.2.2.1 ∧ v.2.2.1 + 1 < a.size ∧ v.2.2.2.1 < b.size ∧ n < v.2.1.size
abbrev Fn6 (a b : Array Keyed) (st : SortSt) (v : L6) (st' : SortSt) : Prop := st' = st ∧ ∃ x, v.1 = some x ∧ OKR a.toList b.toList x.toList
theorem wp_f1 (hk : kindOf st = oneType') (P : MP a b) (M : MA a b r i j) (hi : i + 1 < a.size) (hj : j < b.size) (hn : n ≤ r.size) :
    wpS (model prog w) A E s (f1 a b g r i j c d) (fun z st' => match z with | .done v => Ok6 a b st n v st' ∨ Fn6 a b st v st' | .yield v => Ok6 a b st n v st') st := by
  have ia : i < a.size := by omega
  unfold f1
  refine wpS_bind (wpS_elem hj (wpS_bind (wpS_elem ia (wpS_bind (wpS_lt hk (P.kb j hj) (P.ka i ia) ?_)))))
  dsimp only
  by_cases c0 : kv b[j] < kv a[i]
  · rw [if_pos (by simpa using c0)]
    refine wpS_bind (wpS_elem hj ?_)
    have M' := P.puB M ia hj (Int.le_of_lt c0)
    have hs : n < (r.push b[j]).size := by rw [Array.size_push]; omega
    by_cases c1 : j + 1 = b.size
    · rw [if_pos (by simpa using c1)]
      exact wpS_pure (.inr ⟨rfl, _, rfl, by rw [dn_toList]; exact M'.dn P.sa (by show b.size ≤ j + 1; omega)⟩)
    · rw [if_neg (by simpa using c1)]
      split
      · exact wpS_pure (.inl ⟨rfl, rfl, M', hi, by show j + 1 < b.size; omega, hs⟩)
      · exact wpS_pure ⟨rfl, rfl, M', hi, by show j + 1 < b.size; omega, hs⟩
  · rw [if_neg (by simpa using c0)]
    refine wpS_bind (wpS_elem ia ?_)
    have M' := P.puA M ia hj (Int.not_lt.mp c0)
    have hs : n < (r.push a[i]).size := by rw [Array.size_push]; omega
    by_cases c1 : i + 1 + 1 = a.size
    · rw [if_pos (by simpa using c1)]
      exact wpS_pure (.inr ⟨rfl, _, rfl, by rw [ld_toList]; exact M'.ld P.sb c1 (P.last c1)⟩)
    · rw [if_neg (by simpa using c1)]
      split
      · exact wpS_pure (.inl ⟨rfl, rfl, M', by show i + 1 + 1 < a.size; omega, hj, hs⟩)
      · exact wpS_pure ⟨rfl, rfl, M', by show i + 1 + 1 < a.size; omega, hj, hs⟩
theorem wpS_mLo {Q : Array Keyed → SortSt → Prop} (hk : kindOf st = oneType') (P : MP a b) (hQ : ∀ R st', OKR a.toList b.toList R.toList → Sg st st' → Q R st') : wpS (model prog w) A E s (mLo a b) Q st := by
  have na := P.na
  have nb := P.nb
  rw [mLo_eq]
  refine wpS_bind (wpS_lift (wpAny_rule ⟨rfl, ?_⟩))
  refine wpS_bind (wpS_elem nb ?_)
  have M0 : MA a b #[] 0 0 := ⟨by show ([] ++ a.toList ++ b.toList).Perm _; exact List.Perm.refl _, List.Pairwise.nil, fun p hp => (by cases hp), fun p hp => (by cases hp)⟩
  have M1 : MA a b #[b[0]] 0 1 := P.puB M0 na nb (Int.le_of_lt (P.fi _ (Array.getElem_mem_toList na)))
  by_cases c0 : 1 = b.size
  · rw [if_pos (by simpa using c0)]
    exact wpS_pure (hQ _ _ (by rw [dn_toList]; exact M1.dn P.sa (by show b.size ≤ 1; omega)) (.refl _))
  · rw [if_neg (by simpa using c0)]
    by_cases c1 : 1 = a.size
    · rw [if_pos (by simpa using c1)]
      exact wpS_pure (hQ _ _ (by rw [ld_toList]; exact M1.ld P.sb c1 (P.last c1)) (.refl _))
    · rw [if_neg (by simpa using c1)]
      refine wpS_bind (wpS_get ?_)
      refine wpS_bind (wpS_mono (wpS_forRange (I := fun n t st' => Sg st st' ∧ t.1 = none ∧ MA a b t.2.1 t.2.2.1 t.2.2.2.1 ∧ t.2.2.1 + 1 < a.size ∧ t.2.2.2.1 < b.size ∧ n < t.2.1.size)
        (Q := fun t st' => Sg st st' ∧ ∃ x, t.1 = some x ∧ OKR a.toList b.toList x.toList) ?_ ?_ ⟨.refl _, rfl, M1, by show 0 + 1 < a.size; omega, by show 1 < b.size; omega, by show 0 < 1; omega⟩) ?_)
      · rintro n ⟨t1, r, i, j, g⟩ st' _ hn ⟨G, e0, M, hi, hj, hs⟩
        dsimp only at M hi hj hs ⊢
        have hk' : kindOf st' = oneType' := G.1.trans hk
        refine wpS_bind (wpS_mono (wpS_forRange (I := fun m u st2 => st2 = st' ∧ u.1 = none ∧ MA a b u.2.1 u.2.2.1 u.2.2.2.1 ∧ u.2.2.1 + 1 < a.size ∧ u.2.2.2.1 < b.size ∧ n < u.2.1.size ∧ (0 < m → n + 1 < u.2.1.size))
          (Q := fun u st2 => Ok6 a b st' (n + 1) u st2 ∨ Fn6 a b st' u st2) ?_ ?_ ⟨rfl, rfl, M, hi, hj, hs, fun h => by omega⟩) ?_)
        · rintro m ⟨u1, r, i, j, c, d⟩ st2 _ hm ⟨rfl, e1, M, hi, hj, hs, _⟩
          dsimp only at M hi hj hs ⊢
          refine wpS_mono (wp_f1 (n := n + 1) hk' P M hi hj hs) fun z st3 h => ?_
          cases z with
          | done v => exact h
          | yield v => exact ⟨h.1, h.2.1, h.2.2.1, h.2.2.2.1, h.2.2.2.2.1, by have := h.2.2.2.2.2; omega, fun _ => h.2.2.2.2.2⟩
        · rintro u st2 ⟨rfl, e1, M, hi, hj, hs, hh⟩
          exact .inl ⟨rfl, e1, M, hi, hj, hh (by omega)⟩
        · rintro ⟨u1, r, i, j, c, d⟩ st2 (⟨rfl, e1, M, hi, hj, hs⟩ | ⟨rfl, x, e1, ok⟩)
          · dsimp only at e1 M hi hj hs ⊢
            subst e1
            dsimp only
            refine wpS_bind (wpS_lift (wpAny_rule ⟨rfl, ?_⟩))
            refine wpS_bind (wpS_mono (wpS_forRange (I := fun _ v st3 => Ok7 a b st (n + 1) v st3) (Q := fun v st3 => Ok7 a b st (n + 1) v st3 ∨ Fn7 a b st v st3) ?_ (fun v st3 h => .inl h) ⟨G, rfl, M, hi, hj, hs⟩) ?_)
            · rintro m ⟨v1, r, i, j, g, c, d⟩ st3 _ hm ⟨G3, e1, M, hi, hj, hs⟩
              dsimp only at M hi hj hs ⊢
              split
              · exact wpS_mono (wp_h1 hk P G3 M hi hj hs) fun z _ h => by cases z <;> exact h
              · exact wpS_mono (wp_h1 hk P G3 M hi hj hs) fun z _ h => by cases z <;> exact h
            · rintro ⟨v1, r, i, j, g, c, d⟩ st3 (⟨G3, e1, M, hi, hj, hs⟩ | ⟨G3, x, e1, ok⟩)
              · dsimp only at e1 M hi hj hs ⊢
                subst e1
                dsimp only
                exact wpS_bind (wpS_modify (wpS_pure ⟨G3, rfl, M, hi, hj, hs⟩))
              · dsimp only at e1 ⊢
                subst e1
                exact wpS_pure ⟨G3, x, rfl, ok⟩
          · dsimp only at e1 ⊢
            subst e1
            exact wpS_pure ⟨G, x, rfl, ok⟩
      · rintro ⟨t1, r, i, j, g⟩ st' ⟨G, e0, M, hi, hj, hs⟩
        have := M.len (by show i ≤ a.size; dsimp only at hi; omega) (by show j ≤ b.size; dsimp only at hj; omega)
        dsimp only at hi hj hs
        simp only [Array.length_toList] at this
        omega
      · rintro ⟨t1, r, i, j, g⟩ st' ⟨G, x, e0, ok⟩
        dsimp only at e0 ⊢
        subst e0
        exact wpS_pure (hQ _ _ ok G)
end
end TM

namespace TM
open PySem PyProof.Rows
structure MH (la lb O : List Keyed) (i j : Nat) : Prop where
  pm : (la.take i ++ lb.take j ++ O).Perm (la ++ lb)
  so : O.Pairwise Le
  ra : ∀ p ∈ la.take i, ∀ q ∈ O, Le p q
  rb : ∀ p ∈ lb.take j, ∀ q ∈ O, Le p q
section
variable {la lb O : List Keyed} {i j k : Nat}
theorem cut_take {l : List Keyed} (h : k ≤ i) : l.take k ++ (l.take i).drop k = l.take i := by
  have := List.take_append_drop k (l.take i)
  rwa [List.take_take, Nat.min_eq_left h] at this
theorem MH.pa (M : MH la lb O i j) (sa : la.Pairwise Le) (ki : k ≤ i) (h : ∀ q ∈ (la.take i).drop k, ∀ p ∈ lb.take j, Le p q) : MH la lb ((la.take i).drop k ++ O) k j := by
  have e := cut_take (l := la) ki
  have sd : (la.take i).Pairwise Le := sa.sublist (List.take_sublist _ _)
  rw [← e] at sd
  obtain ⟨s1, s2, s3⟩ := List.pairwise_append.mp sd
  refine ⟨?_, List.pairwise_append.mpr ⟨s2, M.so, fun p hp q hq => M.ra p (by rw [← e]; exact List.mem_append_right _ hp) q hq⟩, fun p hp q hq => ?_, fun p hp q hq => ?_⟩
  · refine List.Perm.trans ?_ M.pm
    have e2 : la.take i ++ lb.take j ++ O = la.take k ++ (la.take i).drop k ++ lb.take j ++ O := by rw [e]
    rw [e2, List.append_assoc, List.append_assoc, List.append_assoc]
    refine List.Perm.append_left _ ?_
    rw [← List.append_assoc, ← List.append_assoc]
    exact List.Perm.append_right _ List.perm_append_comm
  · rcases List.mem_append.mp hq with z | z
    · exact s3 p hp q z
    · exact M.ra p (by rw [← e]; exact List.mem_append_left _ hp) q z
  · rcases List.mem_append.mp hq with z | z
    · exact h q z p hp
    · exact M.rb p hp q z
theorem MH.pb (M : MH la lb O i j) (sb : lb.Pairwise Le) (kj : k ≤ j) (h : ∀ q ∈ (lb.take j).drop k, ∀ p ∈ la.take i, Le p q) : MH la lb ((lb.take j).drop k ++ O) i k := by
  have e := cut_take (l := lb) kj
  have sd : (lb.take j).Pairwise Le := sb.sublist (List.take_sublist _ _)
  rw [← e] at sd
  obtain ⟨s1, s2, s3⟩ := List.pairwise_append.mp sd
  refine ⟨?_, List.pairwise_append.mpr ⟨s2, M.so, fun p hp q hq => M.rb p (by rw [← e]; exact List.mem_append_right _ hp) q hq⟩, fun p hp q hq => ?_, fun p hp q hq => ?_⟩
  · have := M.pm
    rw [← e] at this
    simp only [List.append_assoc] at this ⊢
    exact this
  · rcases List.mem_append.mp hq with z | z
    · exact h q z p hp
    · exact M.ra p hp q z
  · rcases List.mem_append.mp hq with z | z
    · exact s3 p hp q z
    · exact M.rb p (by rw [← e]; exact List.mem_append_left _ hp) q z
theorem MH.len (M : MH la lb O i j) (hi : i ≤ la.length) (hj : j ≤ lb.length) : i + j + O.length = la.length + lb.length := by
  have := M.pm.length_eq
  rw [List.length_append, List.length_append, List.length_append, List.length_take, List.length_take, Nat.min_eq_left hi, Nat.min_eq_left hj] at this
  exact this
theorem MH.dn (M : MH la lb O i j) (sb : lb.Pairwise Le) (e : i = 0) : OKR la lb (la.take i ++ lb.take j ++ O) := by
  subst e
  refine ⟨M.pm, ?_⟩
  show (lb.take j ++ O).Pairwise Le
  exact List.pairwise_append.mpr ⟨sb.sublist (List.take_sublist _ _), M.so, M.rb⟩
theorem MH.fb (M : MH la lb O i j) (sa : la.Pairwise Le) (h : ∀ p ∈ lb.take 1, ∀ q ∈ la, Le p q) (e : j = 1) : OKR la lb (lb.take j ++ la.take i ++ O) := by
  subst e
  refine ⟨?_, ?_⟩
  · refine List.Perm.trans ?_ M.pm
    exact List.Perm.append_right _ List.perm_append_comm
  · rw [List.append_assoc]
    refine List.pairwise_append.mpr ⟨?_, List.pairwise_append.mpr ⟨sa.sublist (List.take_sublist _ _), M.so, M.ra⟩, fun p hp q hq => ?_⟩
    · cases lb with
      | nil => exact List.Pairwise.nil
      | cons x t => exact List.pairwise_singleton _ _
    · rcases List.mem_append.mp hq with z | z
      · exact h p hp q (List.mem_of_mem_take z)
      · exact M.rb p hp q z
end
def dh (a b r : Array Keyed) (i j : Nat) := a.extract 0 i ++ b.extract 0 j ++ r.reverse
def fb (a b r : Array Keyed) (i j : Nat) := b.extract 0 j ++ a.extract 0 i ++ r.reverse
theorem mHi_eq0 (a b : Array Keyed) : mHi a b = (do
  rule "list.sort.merge-hi"
  let N := a.size + b.size
  let mut i := a.size - 1
  let mut j := b.size
  let mut r : Array Keyed := #[← elem' a i]
  if i == 0 then return dh a b r i j
  if j == 1 then return fb a b r i j
  let mut g := gallopOf (← get)
  for _ in [0:N] do
    let mut c := 0
    let mut d := 0
    for _ in [0:N] do
      let some z ← lt' (← elem' b (j - 1)) (← elem' a (i - 1)) | return dh a b r i j
      if z then
        i := i - 1; r := r.push (← elem' a i); c := c + 1; d := 0
        if i == 0 then return dh a b r i j
        if c ≥ g then break
      else
        j := j - 1; r := r.push (← elem' b j); d := d + 1; c := 0
        if j == 1 then return fb a b r i j
        if d ≥ g then break
    rule "list.sort.gallop"
    g := g + 1
    for _ in [0:N] do
      if g > 1 then g := g - 1
      setG g
      let some p ← gal false (← elem' b (j - 1)) a 0 i (i - 1) | return dh a b r i j
      let k := i - p
      c := k
      if k > 0 then
        r := r ++ (a.extract p i).reverse; i := p
        if i == 0 then return dh a b r i j
      j := j - 1; r := r.push (← elem' b j)
      if j == 1 then return fb a b r i j
      let some p ← gal true (← elem' a (i - 1)) b 0 j (j - 1) | return dh a b r i j
      let k := j - p
      d := k
      if k > 0 then
        r := r ++ (b.extract p j).reverse; j := p
        if j == 1 then return fb a b r i j
        if j == 0 then return dh a b r i j
      i := i - 1; r := r.push (← elem' a i)
      if i == 0 then return dh a b r i j
      if c < 7 && d < 7 then break
    g := g + 1
    setG g
  unsupported "internal:list.sort.merge-bound") := rfl
abbrev H5 := Option (Array Keyed) × Nat × Nat × Array Keyed × Nat
abbrev H6 := Option (Array Keyed) × Nat × Nat × Array Keyed × Nat × Nat
abbrev H7 := Option (Array Keyed) × Nat × Nat × Array Keyed × Nat × Nat × Nat
def y3 (a b r : Array Keyed) (i j g c d : Nat) : StateT SortSt Sem (ForInStep H7) := do
  let x ← elem' a (i - 1)
  if (i - 1 == 0) = true then pure (.done (some (dh a b (r.push x) (i - 1) j), i - 1, j, r.push x, g, c, d))
  else if (decide (c < 7) && decide (d < 7)) = true then pure (.done (none, i - 1, j, r.push x, g, c, d)) else pure (.yield (none, i - 1, j, r.push x, g, c, d))
def y2 (a b r : Array Keyed) (i j g c d : Nat) : StateT SortSt Sem (ForInStep H7) := do
  let x ← elem' b (j - 1)
  if (j - 1 == 1) = true then pure (.done (some (fb a b (r.push x) i (j - 1)), i, j - 1, r.push x, g, c, d))
  else do
    let y ← elem' a (i - 1)
    let some p ← gal true y b 0 (j - 1) (j - 1 - 1) | pure (.done (some (dh a b (r.push x) i (j - 1)), i, j - 1, r.push x, g, c, d))
    if j - 1 - p > 0 then
        if (p == 1) = true then pure (.done (some (fb a b (r.push x ++ (b.extract p (j - 1)).reverse) i p), i, p, r.push x ++ (b.extract p (j - 1)).reverse, g, c, j - 1 - p))
        else if (p == 0) = true then pure (.done (some (dh a b (r.push x ++ (b.extract p (j - 1)).reverse) i p), i, p, r.push x ++ (b.extract p (j - 1)).reverse, g, c, j - 1 - p))
        else y3 a b (r.push x ++ (b.extract p (j - 1)).reverse) i p g c (j - 1 - p)
    else y3 a b (r.push x) i (j - 1) g c (j - 1 - p)
def y1 (a b r : Array Keyed) (i j g c d : Nat) : StateT SortSt Sem (ForInStep H7) := do
  setG g
  let x ← elem' b (j - 1)
  let some p ← gal false x a 0 i (i - 1) | pure (.done (some (dh a b r i j), i, j, r, g, c, d))
  if i - p > 0 then
      if (p == 0) = true then pure (.done (some (dh a b (r ++ (a.extract p i).reverse) p j), p, j, r ++ (a.extract p i).reverse, g, i - p, d))
      else y2 a b (r ++ (a.extract p i).reverse) p j g (i - p) d
  else y2 a b r i j g (i - p) d
def x1 (a b : Array Keyed) (g : Nat) (r : Array Keyed) (i j c d : Nat) : StateT SortSt Sem (ForInStep H6) := do
  let x ← elem' b (j - 1)
  let y ← elem' a (i - 1)
  let some t ← lt' x y | pure (.done (some (dh a b r i j), i, j, r, c, d))
  if t = true then do
      let y ← elem' a (i - 1)
      if (i - 1 == 0) = true then pure (.done (some (dh a b (r.push y) (i - 1) j), i - 1, j, r.push y, c + 1, 0))
      else if c + 1 ≥ g then pure (.done (none, i - 1, j, r.push y, c + 1, 0)) else pure (.yield (none, i - 1, j, r.push y, c + 1, 0))
  else do
      let x ← elem' b (j - 1)
      if (j - 1 == 1) = true then pure (.done (some (fb a b (r.push x) i (j - 1)), i, j - 1, r.push x, 0, d + 1))
      else if d + 1 ≥ g then pure (.done (none, i, j - 1, r.push x, 0, d + 1)) else pure (.yield (none, i, j - 1, r.push x, 0, d + 1))
theorem mHi_eq (a b : Array Keyed) : mHi a b = (do
  rule "list.sort.merge-hi"
  let x ← elem' a (a.size - 1)
  if (a.size - 1 == 0) = true then pure (dh a b #[x] (a.size - 1) b.size)
  else if (b.size == 1) = true then pure (fb a b #[x] (a.size - 1) b.size)
  else do
    let st ← get
    let t ← forIn [0:a.size + b.size] ((none, a.size - 1, b.size, #[x], gallopOf st) : H5) fun _ t => do
      let u ← forIn [0:a.size + b.size] ((none, t.2.1, t.2.2.1, t.2.2.2.1, 0, 0) : H6) fun _ u => x1 a b t.2.2.2.2 u.2.2.2.1 u.2.1 u.2.2.1 u.2.2.2.2.1 u.2.2.2.2.2
      match u.1 with
      | some r => pure (ForInStep.done (some r, u.2.1, u.2.2.1, u.2.2.2.1, t.2.2.2.2))
      | none => do
        rule "list.sort.gallop"
        let v ← forIn [0:a.size + b.size] ((none, u.2.1, u.2.2.1, u.2.2.2.1, t.2.2.2.2 + 1, u.2.2.2.2.1, u.2.2.2.2.2) : H7) fun _ v =>
          if v.2.2.2.2.1 > 1 then y1 a b v.2.2.2.1 v.2.1 v.2.2.1 (v.2.2.2.2.1 - 1) v.2.2.2.2.2.1 v.2.2.2.2.2.2
          else y1 a b v.2.2.2.1 v.2.1 v.2.2.1 v.2.2.2.2.1 v.2.2.2.2.2.1 v.2.2.2.2.2.2
        match v.1 with
        | some r => pure (ForInStep.done (some r, v.2.1, v.2.2.1, v.2.2.2.1, v.2.2.2.2.1))
        | none => do
          setG (v.2.2.2.2.1 + 1)
          pure (ForInStep.yield (none, v.2.1, v.2.2.1, v.2.2.2.1, v.2.2.2.2.1 + 1))
    match t.1 with
    | some r => pure r
    | none => unsupported "internal:list.sort.merge-bound") := by
  rw [mHi_eq0]
  dsimp only
  congr 1; funext _
  congr 1; funext x
  congr 1
  congr 1
  congr 1; funext st
  congr 1
  · congr 1; funext _ t
    congr 1
    funext u
    cases h : u.1 with
    | some r => rfl
    | none =>
      dsimp only
      congr 1; funext _
      congr 1
      funext v
      cases h2 : v.1 with
      | some r => rfl
      | none => rfl
  · funext t
    cases t.1 with
    | some r => rfl
    | none => rfl
section
variable {l : List Keyed} {a b r : Array Keyed} {i j k : Nat}
theorem ext0 (x : Array Keyed) (n : Nat) : (x.extract 0 n).toList = x.toList.take n := by
  rw [Array.toList_extract, List.extract_eq_take_drop]; rfl
theorem dh_toList : (dh a b r i j).toList = a.toList.take i ++ b.toList.take j ++ r.toList.reverse := by
  unfold dh; rw [Array.toList_append, Array.toList_append, ext0, ext0, Array.toList_reverse]
theorem fb_toList : (fb a b r i j).toList = b.toList.take j ++ a.toList.take i ++ r.toList.reverse := by
  unfold fb; rw [Array.toList_append, Array.toList_append, ext0, ext0, Array.toList_reverse]
theorem chunk_rev : (r ++ (a.extract k i).reverse).toList.reverse = (a.toList.take i).drop k ++ r.toList.reverse := by
  rw [Array.toList_append, Array.toList_reverse, List.reverse_append, List.reverse_reverse, Array.toList_extract, List.extract_eq_take_drop, List.drop_take]
theorem one_rev (h : i - 1 < a.size) (h0 : 0 < i) : (r.push a[i - 1]).toList.reverse = (a.toList.take i).drop (i - 1) ++ r.toList.reverse := by
  have h' : i - 1 < a.toList.length := h
  rw [Array.toList_push, List.reverse_append, List.drop_take, List.drop_eq_getElem_cons h', show i - (i - 1) = 1 by omega]; rfl
theorem le_last (s : l.Pairwise Le) (h0 : 0 < j) (h : j - 1 < l.length) : ∀ p ∈ l.take j, Le p l[j - 1] := fun p hp => by
  obtain ⟨t, ht⟩ := List.mem_iff_getElem?.mp hp
  rw [List.getElem?_take] at ht
  by_cases c : t < j
  · rw [if_pos c] at ht
    obtain ⟨hl, rfl⟩ := List.getElem?_eq_some_iff.mp ht
    rcases Nat.lt_or_ge t (j - 1) with z | z
    · exact List.pairwise_iff_getElem.mp s t (j - 1) hl h z
    · have : t = j - 1 := by omega
      subst this; exact Int.le_refl _
  · rw [if_neg c] at ht; cases ht
theorem mem_cut {q : Keyed} (h : q ∈ (l.take i).drop k) : ∃ t, k ≤ t ∧ t < i ∧ l[t]? = some q := by
  obtain ⟨t, ht⟩ := List.mem_iff_getElem?.mp h
  rw [List.getElem?_drop, List.getElem?_take] at ht
  by_cases c : k + t < i
  · rw [if_pos c] at ht; exact ⟨k + t, by omega, c, ht⟩
  · rw [if_neg c] at ht; cases ht
abbrev MB (a b r : Array Keyed) (i j : Nat) : Prop := MH a.toList b.toList r.toList.reverse i j
theorem MP.caA (P : MP a b) (M : MB a b r i j) (ki : k ≤ i) (j0 : 0 < j) (hj : j - 1 < b.size) (h : ∀ t, k ≤ t → t < i → t < a.size → kv b[j - 1] ≤ K a t) : MB a b (r ++ (a.extract k i).reverse) k j := by
  unfold MB
  rw [chunk_rev]
  refine MH.pa M P.sa ki fun q hq p hp => ?_
  obtain ⟨t, h1, h2, e⟩ := mem_cut hq
  obtain ⟨hl, rfl⟩ := List.getElem?_eq_some_iff.mp e
  have h3 := h t h1 h2 hl
  rw [K_kv hl] at h3
  exact Int.le_trans (le_last P.sb j0 hj p hp) h3
theorem MP.caB (P : MP a b) (M : MB a b r i j) (kj : k ≤ j) (i0 : 0 < i) (hi : i - 1 < a.size) (h : ∀ t, k ≤ t → t < j → t < b.size → kv a[i - 1] ≤ K b t) : MB a b (r ++ (b.extract k j).reverse) i k := by
  unfold MB
  rw [chunk_rev]
  refine MH.pb M P.sb kj fun q hq p hp => ?_
  obtain ⟨t, h1, h2, e⟩ := mem_cut hq
  obtain ⟨hl, rfl⟩ := List.getElem?_eq_some_iff.mp e
  have h3 := h t h1 h2 hl
  rw [K_kv hl] at h3
  exact Int.le_trans (le_last P.sa i0 hi p hp) h3
theorem MP.qA (P : MP a b) (M : MB a b r i j) (i0 : 0 < i) (hi : i - 1 < a.size) (j0 : 0 < j) (hj : j - 1 < b.size) (h : Le b[j - 1] a[i - 1]) : MB a b (r.push a[i - 1]) (i - 1) j := by
  unfold MB
  rw [one_rev hi i0, ← chunk_rev]
  exact P.caA M (by omega) j0 hj fun t h1 h2 h3 => by have : t = i - 1 := by omega
                                                      subst this; rw [K_kv h3]; exact h
theorem MP.qB (P : MP a b) (M : MB a b r i j) (i0 : 0 < i) (hi : i - 1 < a.size) (j0 : 0 < j) (hj : j - 1 < b.size) (h : Le a[i - 1] b[j - 1]) : MB a b (r.push b[j - 1]) i (j - 1) := by
  unfold MB
  rw [one_rev hj j0, ← chunk_rev]
  exact P.caB M (by omega) i0 hi fun t h1 h2 h3 => by have : t = j - 1 := by omega
                                                      subst this; rw [K_kv h3]; exact h
theorem MP.one (P : MP a b) : ∀ p ∈ b.toList.take 1, ∀ q ∈ a.toList, Le p q := fun p hp q hq => by
  have nb : 0 < b.toList.length := P.nb
  have e : b.toList.take 1 = [b[0]'P.nb] := by
    have := List.drop_eq_getElem_cons nb
    rw [List.drop_zero] at this
    rw [this]; rfl
  rw [e] at hp
  rw [List.mem_singleton.mp hp]
  exact Int.le_of_lt (P.fi q hq)
end
section
variable {prog : Program} {w : World} {A : Around} {E : Value → Shared → Prop} {s : Shared} {st st' : SortSt} {a b r : Array Keyed} {i j g c d n : Nat}
abbrev Ok7h (a b : Array Keyed) (st : SortSt) (n : Nat) (v : H7) (st' : SortSt) : Prop := Sg st st' ∧ v.1 = none ∧ MB a b v.2.2.2.1 v.2.1 v.2.2.1 ∧ (0 < v.2.1 ∧ v.2.1 ≤ a.size) ∧ (1 < v.2.2.1 ∧ v.2.2.1 ≤ b.size) ∧ n < v.2.2.2.1.size
abbrev Fn7h (a b : Array Keyed) (st : SortSt) (v : H7) (st' : SortSt) : Prop := Sg st st' ∧ ∃ x, v.1 = some x ∧ OKR a.toList b.toList x.toList
abbrev Bo7h (a b : Array Keyed) (st : SortSt) (n : Nat) (z : ForInStep H7) (st' : SortSt) : Prop := match z with | .done v => Ok7h a b st n v st' ∨ Fn7h a b st v st' | .yield v => Ok7h a b st n v st'
theorem wp_y3 (P : MP a b) (G : Sg st st') (M : MB a b r i j) (i0 : 0 < i) (hi : i ≤ a.size) (j0 : 1 < j) (hj : j ≤ b.size) (hl : Le (b[j - 1]'(by omega)) (a[i - 1]'(by omega))) (hn : n < r.size) :
    wpS (model prog w) A E s (y3 a b r i j g c d) (Bo7h a b st n) st' := by
  unfold y3
  have hi1 : i - 1 < a.size := by omega
  refine wpS_bind (wpS_elem hi1 ?_)
  have M' := P.qA M i0 hi1 (by omega) (by omega) hl
  have hs : n < (r.push a[i - 1]).size := by rw [Array.size_push]; omega
  by_cases c0 : i - 1 = 0
  · rw [if_pos (by simpa using c0)]
    refine wpS_pure (.inr ⟨G, _, rfl, ?_⟩)
    rw [dh_toList]
    exact M'.dn P.sb c0
  · rw [if_neg (by simpa using c0)]
    split
    · exact wpS_pure (.inl ⟨G, rfl, M', ⟨by show 0 < i - 1; omega, by show i - 1 ≤ a.size; omega⟩, ⟨j0, hj⟩, hs⟩)
    · exact wpS_pure ⟨G, rfl, M', ⟨by show 0 < i - 1; omega, by show i - 1 ≤ a.size; omega⟩, ⟨j0, hj⟩, hs⟩
theorem wp_y2 (hk : kindOf st = oneType') (P : MP a b) (G : Sg st st') (M : MB a b r i j) (i0 : 0 < i) (hi : i ≤ a.size) (j0 : 1 < j) (hj : j ≤ b.size) (hl : Le (a[i - 1]'(by omega)) (b[j - 1]'(by omega))) (hn : n < r.size) :
    wpS (model prog w) A E s (y2 a b r i j g c d) (Bo7h a b st n) st' := by
  unfold y2
  have hi1 : i - 1 < a.size := by omega
  have hj1 : j - 1 < b.size := by omega
  refine wpS_bind (wpS_elem hj1 ?_)
  have M' := P.qB M i0 hi1 (by omega) hj1 hl
  have hs : n < (r.push b[j - 1]).size := by rw [Array.size_push]; omega
  by_cases c0 : j - 1 = 1
  · rw [if_pos (by simpa using c0)]
    refine wpS_pure (.inr ⟨G, _, rfl, ?_⟩)
    rw [fb_toList]
    exact M'.fb P.sa P.one c0
  · rw [if_neg (by simpa using c0)]
    refine wpS_bind (wpS_elem hi1 ?_)
    refine wpS_bind (wpS_gal (by rw [G.1]; exact hk) P.kb (P.ka _ hi1) (by omega) (by omega) (fun t u tu un h => ?_) fun p pn h1 h2 => ?_)
    · simp only [bp, if_true, decide_eq_true_eq, Nat.zero_add] at h ⊢
      exact Int.lt_of_le_of_lt (K_mono P.sb tu (by omega)) h
    · have e1 : ∀ t, t < p → K b t < kv a[i - 1] := fun t ht => by have := h1 t ht; simp only [bp, if_true, decide_eq_true_eq, Nat.zero_add] at this; exact this
      have e2 : ∀ t, p ≤ t → t < j - 1 → kv a[i - 1] ≤ K b t := fun t ht hh => by have := h2 t ht hh; simp only [bp, if_true, decide_eq_false_iff_not, Nat.zero_add, Int.not_lt] at this; exact this
      have p0 : 0 < p := by
        apply Classical.byContradiction
        intro z
        have h3 := e2 0 (by omega) (by omega)
        have h4 := P.fi _ (Array.getElem_mem_toList hi1)
        rw [K_kv P.nb] at h3
        omega
      have e3 : ∀ (h : p - 1 < b.size), Le b[p - 1] a[i - 1] := fun h => by have := e1 (p - 1) (by omega); rw [K_kv h] at this; exact Int.le_of_lt this
      dsimp only
      by_cases ck : j - 1 - p > 0
      · rw [if_pos ck]
        have M2 := P.caB (k := p) M' (by omega) i0 hi1 fun t h1 h2 _ => e2 t h1 h2
        have hs2 : n < (r.push b[j - 1] ++ (b.extract p (j - 1)).reverse).size := by rw [Array.size_append]; omega
        by_cases c1 : p = 1
        · rw [if_pos (by simpa using c1)]
          refine wpS_pure (.inr ⟨G, _, rfl, ?_⟩)
          rw [fb_toList]
          exact M2.fb P.sa P.one c1
        · rw [if_neg (by simpa using c1), if_neg (by simpa using Nat.pos_iff_ne_zero.mp p0)]
          exact wp_y3 P G M2 i0 hi (by omega) (by omega) (e3 (by omega)) hs2
      · rw [if_neg ck]
        have pe : p = j - 1 := by omega
        subst pe
        exact wp_y3 P G M' i0 hi (by omega) (by omega) (e3 (by omega)) hs
theorem wp_y1 (hk : kindOf st = oneType') (P : MP a b) (G : Sg st st') (M : MB a b r i j) (i0 : 0 < i) (hi : i ≤ a.size) (j0 : 1 < j) (hj : j ≤ b.size) (hn : n < r.size) :
    wpS (model prog w) A E s (y1 a b r i j g c d) (Bo7h a b st n) st' := by
  unfold y1
  have hi1 : i - 1 < a.size := by omega
  have hj1 : j - 1 < b.size := by omega
  refine wpS_bind (wpS_modify ?_)
  have G' : Sg st (SortSt.mk' (kindOf st') (arrOf st') (pendingOf st') g (failedOf st')) := G
  refine wpS_bind (wpS_elem hj1 ?_)
  refine wpS_bind (wpS_gal (by exact G.1.trans hk) P.ka (P.kb _ hj1) (by omega) (by omega) (fun t u tu un h => ?_) fun p pn h1 h2 => ?_)
  · simp only [bp, Bool.false_eq_true, if_false, Bool.not_eq_true', decide_eq_false_iff_not, Int.not_lt, Nat.zero_add] at h ⊢
    exact Int.le_trans (K_mono P.sa tu (by omega)) h
  · have e1 : ∀ t, t < p → K a t ≤ kv b[j - 1] := fun t ht => by have := h1 t ht; simp only [bp, Bool.false_eq_true, if_false, Bool.not_eq_true', decide_eq_false_iff_not, Int.not_lt, Nat.zero_add] at this; exact this
    have e2 : ∀ t, p ≤ t → t < i → kv b[j - 1] < K a t := fun t ht hh => by have := h2 t ht hh; simp only [bp, Bool.false_eq_true, if_false, Bool.not_eq_false', decide_eq_true_eq, Nat.zero_add] at this; exact this
    have e3 : ∀ (h0 : 0 < p) (h : p - 1 < a.size), Le a[p - 1] b[j - 1] := fun h0 h => by have := e1 (p - 1) (by omega); rw [K_kv h] at this; exact this
    dsimp only
    by_cases ck : i - p > 0
    · rw [if_pos ck]
      have M2 := P.caA (k := p) M (by omega) (by omega) hj1 fun t h1 h2 _ => Int.le_of_lt (e2 t h1 h2)
      have hs2 : n < (r ++ (a.extract p i).reverse).size := by rw [Array.size_append]; omega
      by_cases c1 : p = 0
      · rw [if_pos (by simpa using c1)]
        refine wpS_pure (.inr ⟨G', _, rfl, ?_⟩)
        rw [dh_toList]
        exact M2.dn P.sb c1
      · rw [if_neg (by simpa using c1)]
        exact wp_y2 hk P G' M2 (by omega) (by omega) j0 hj (e3 (by omega) (by omega)) hs2
    · rw [if_neg ck]
      have pe : p = i := by omega
      subst pe
      exact wp_y2 hk P G' M i0 hi j0 hj (e3 i0 (by omega)) hn
abbrev Ok6h (a b : Array Keyed) (st : SortSt) (n : Nat) (v : H6) (st' : SortSt) : Prop := st' = st ∧ v.1 = none ∧ MB a b v.2.2.2.1 v.2.1 v.2.2.1 ∧ (0 < v.2.1 ∧ v.2.1 ≤ a.size) ∧ (1 < v.2.2.1 ∧ v.2.2.1 ≤ b.size) ∧ n < v.2.2.2.1.size
abbrev Fn6h (a b : Array Keyed) (st : SortSt) (v : H6) (st' : SortSt) : Prop := st' = st ∧ ∃ x, v.1 = some x ∧ OKR a.toList b.toList x.toList
theorem wp_x1 (hk : kindOf st = oneType') (P : MP a b) (M : MB a b r i j) (i0 : 0 < i) (hi : i ≤ a.size) (j0 : 1 < j) (hj : j ≤ b.size) (hn : n ≤ r.size) :
    wpS (model prog w) A E s (x1 a b g r i j c d) (fun z st' => match z with | .done v => Ok6h a b st n v st' ∨ Fn6h a b st v st' | .yield v => Ok6h a b st n v st') st := by
  have hi1 : i - 1 < a.size := by omega
  have hj1 : j - 1 < b.size := by omega
  unfold x1
  refine wpS_bind (wpS_elem hj1 (wpS_bind (wpS_elem hi1 (wpS_bind (wpS_lt hk (P.kb _ hj1) (P.ka _ hi1) ?_)))))
  dsimp only
  by_cases c0 : kv b[j - 1] < kv a[i - 1]
  · rw [if_pos (by simpa using c0)]
    refine wpS_bind (wpS_elem hi1 ?_)
    have M' := P.qA M i0 hi1 (by omega) hj1 (Int.le_of_lt c0)
    have hs : n < (r.push a[i - 1]).size := by rw [Array.size_push]; omega
    by_cases c1 : i - 1 = 0
    · rw [if_pos (by simpa using c1)]
      refine wpS_pure (.inr ⟨rfl, _, rfl, ?_⟩)
      rw [dh_toList]
      exact M'.dn P.sb c1
    · rw [if_neg (by simpa using c1)]
      split
      · exact wpS_pure (.inl ⟨rfl, rfl, M', ⟨by show 0 < i - 1; omega, by show i - 1 ≤ a.size; omega⟩, ⟨j0, hj⟩, hs⟩)
      · exact wpS_pure ⟨rfl, rfl, M', ⟨by show 0 < i - 1; omega, by show i - 1 ≤ a.size; omega⟩, ⟨j0, hj⟩, hs⟩
  · rw [if_neg (by simpa using c0)]
    refine wpS_bind (wpS_elem hj1 ?_)
    have M' := P.qB M i0 hi1 (by omega) hj1 (Int.not_lt.mp c0)
    have hs : n < (r.push b[j - 1]).size := by rw [Array.size_push]; omega
    by_cases c1 : j - 1 = 1
    · rw [if_pos (by simpa using c1)]
      refine wpS_pure (.inr ⟨rfl, _, rfl, ?_⟩)
      rw [fb_toList]
      exact M'.fb P.sa P.one c1
    · rw [if_neg (by simpa using c1)]
      split
      · exact wpS_pure (.inl ⟨rfl, rfl, M', ⟨i0, hi⟩, ⟨by show 1 < j - 1; omega, by show j - 1 ≤ b.size; omega⟩, hs⟩)
      · exact wpS_pure ⟨rfl, rfl, M', ⟨i0, hi⟩, ⟨by show 1 < j - 1; omega, by show j - 1 ≤ b.size; omega⟩, hs⟩
theorem wpS_mHi {Q : Array Keyed → SortSt → Prop} (hk : kindOf st = oneType') (P : MP a b) (hQ : ∀ R st', OKR a.toList b.toList R.toList → Sg st st' → Q R st') : wpS (model prog w) A E s (mHi a b) Q st := by
  have na := P.na
  have nb := P.nb
  rw [mHi_eq]
  refine wpS_bind (wpS_lift (wpAny_rule ⟨rfl, ?_⟩))
  refine wpS_bind (wpS_elem (by omega) ?_)
  have M0 : MB a b #[] a.size b.size := ⟨by
    show (a.toList.take a.toList.length ++ b.toList.take b.toList.length ++ []).Perm _
    rw [List.take_length, List.take_length, List.append_nil], List.Pairwise.nil, fun p _ q hq => (by cases hq), fun p _ q hq => (by cases hq)⟩
  have M1 : MB a b #[a[a.size - 1]] (a.size - 1) b.size := P.qA M0 na (by omega) nb (by omega) (Int.le_of_lt (P.la _ (Array.getElem_mem_toList _)))
  by_cases c0 : a.size - 1 = 0
  · rw [if_pos (by simpa using c0)]
    refine wpS_pure (hQ _ _ ?_ (.refl _))
    rw [dh_toList]
    exact M1.dn P.sb c0
  · rw [if_neg (by simpa using c0)]
    by_cases c1 : b.size = 1
    · rw [if_pos (by simpa using c1)]
      refine wpS_pure (hQ _ _ ?_ (.refl _))
      rw [fb_toList]
      exact M1.fb P.sa P.one c1
    · rw [if_neg (by simpa using c1)]
      refine wpS_bind (wpS_get ?_)
      refine wpS_bind (wpS_mono (wpS_forRange (I := fun n t st' => Sg st st' ∧ t.1 = none ∧ MB a b t.2.2.2.1 t.2.1 t.2.2.1 ∧ (0 < t.2.1 ∧ t.2.1 ≤ a.size) ∧ (1 < t.2.2.1 ∧ t.2.2.1 ≤ b.size) ∧ n < t.2.2.2.1.size)
        (Q := fun t st' => Sg st st' ∧ ∃ x, t.1 = some x ∧ OKR a.toList b.toList x.toList) ?_ ?_ ⟨.refl _, rfl, M1, ⟨by show 0 < a.size - 1; omega, by show a.size - 1 ≤ a.size; omega⟩, ⟨by show 1 < b.size; omega, by show b.size ≤ b.size; omega⟩, by show 0 < 1; omega⟩) ?_)
      · rintro n ⟨t1, i, j, r, g⟩ st' _ hn ⟨G, e0, M, ⟨i0, hi⟩, ⟨j0, hj⟩, hs⟩
        dsimp only at M i0 hi j0 hj hs ⊢
        have hk' : kindOf st' = oneType' := G.1.trans hk
        refine wpS_bind (wpS_mono (wpS_forRange (I := fun m u st2 => st2 = st' ∧ u.1 = none ∧ MB a b u.2.2.2.1 u.2.1 u.2.2.1 ∧ (0 < u.2.1 ∧ u.2.1 ≤ a.size) ∧ (1 < u.2.2.1 ∧ u.2.2.1 ≤ b.size) ∧ n < u.2.2.2.1.size ∧ (0 < m → n + 1 < u.2.2.2.1.size))
          (Q := fun u st2 => Ok6h a b st' (n + 1) u st2 ∨ Fn6h a b st' u st2) ?_ ?_ ⟨rfl, rfl, M, ⟨i0, hi⟩, ⟨j0, hj⟩, hs, fun h => by omega⟩) ?_)
        · rintro m ⟨u1, i, j, r, c, d⟩ st2 _ hm ⟨rfl, e1, M, ⟨i0, hi⟩, ⟨j0, hj⟩, hs, _⟩
          dsimp only at M i0 hi j0 hj hs ⊢
          refine wpS_mono (wp_x1 (n := n + 1) hk' P M i0 hi j0 hj hs) fun z st3 h => ?_
          cases z with
          | done v => exact h
          | yield v => exact ⟨h.1, h.2.1, h.2.2.1, h.2.2.2.1, h.2.2.2.2.1, by have := h.2.2.2.2.2; omega, fun _ => h.2.2.2.2.2⟩
        · rintro u st2 ⟨rfl, e1, M, hi, hj, hs, hh⟩
          exact .inl ⟨rfl, e1, M, hi, hj, hh (by omega)⟩
        · rintro ⟨u1, i, j, r, c, d⟩ st2 (⟨rfl, e1, M, hi, hj, hs⟩ | ⟨rfl, x, e1, ok⟩)
          · dsimp only at e1 M hi hj hs ⊢
            subst e1
            dsimp only
            refine wpS_bind (wpS_lift (wpAny_rule ⟨rfl, ?_⟩))
            refine wpS_bind (wpS_mono (wpS_forRange (I := fun _ v st3 => Ok7h a b st (n + 1) v st3) (Q := fun v st3 => Ok7h a b st (n + 1) v st3 ∨ Fn7h a b st v st3) ?_ (fun v st3 h => .inl h) ⟨G, rfl, M, hi, hj, hs⟩) ?_)
            · rintro m ⟨v1, i, j, r, g, c, d⟩ st3 _ hm ⟨G3, e1, M, ⟨i0, hi⟩, ⟨j0, hj⟩, hs⟩
              dsimp only at M i0 hi j0 hj hs ⊢
              split
              · exact wpS_mono (wp_y1 hk P G3 M i0 hi j0 hj hs) fun z _ h => by cases z <;> exact h
              · exact wpS_mono (wp_y1 hk P G3 M i0 hi j0 hj hs) fun z _ h => by cases z <;> exact h
            · rintro ⟨v1, i, j, r, g, c, d⟩ st3 (⟨G3, e1, M, hi, hj, hs⟩ | ⟨G3, x, e1, ok⟩)
              · dsimp only at e1 M hi hj hs ⊢
                subst e1
                dsimp only
                exact wpS_bind (wpS_modify (wpS_pure ⟨G3, rfl, M, hi, hj, hs⟩))
              · dsimp only at e1 ⊢
                subst e1
                exact wpS_pure ⟨G3, x, rfl, ok⟩
          · dsimp only at e1 ⊢
            subst e1
            exact wpS_pure ⟨G, x, rfl, ok⟩
      · rintro ⟨t1, i, j, r, g⟩ st' ⟨G, e0, M, ⟨i0, hi⟩, ⟨j0, hj⟩, hs⟩
        dsimp only at i0 hi j0 hj hs
        have := M.len (by show i ≤ a.size; omega) (by show j ≤ b.size; omega)
        simp only [Array.length_toList, List.length_reverse] at this
        omega
      · rintro ⟨t1, i, j, r, g⟩ st' ⟨G, x, e0, ok⟩
        dsimp only at e0 ⊢
        subst e0
        exact wpS_pure (hQ _ _ ok G)
end
end TM

namespace TM
open PySem PyProof.Rows
abbrev C2 := Option (Option Nat) × Nat
abbrev C3 := Option (Option Nat) × Nat × Nat
def up (lo a N : Nat) : StateT SortSt Sem C2 :=
  forIn [a:N] ((none, a) : C2) fun _ c => do
    let some z ← ltAt' (lo + c.2) (lo + c.2 - 1) | pure (.done (some none, c.2))
    if z = true then pure (.done (none, c.2)) else pure (.yield (none, c.2 + 1))
def fin3 (lo n N : Nat) : StateT SortSt Sem (Option Nat) := do
  reverseSlice' lo (lo + n)
  let c ← up lo n N
  match c.1 with
  | some r => pure r
  | none => pure (some c.2)
def dwn (lo n N : Nat) : StateT SortSt Sem C3 :=
  forIn [n:N] ((none, n, 0) : C3) fun _ c => do
    let some z ← ltAt' (lo + c.2.1) (lo + c.2.1 - 1) | pure (.done (some none, c.2.1, c.2.2))
    if z = true then
      if c.2.2 > 0 then do
        reverseSlice' (lo + c.2.1 - (c.2.2 + 1)) (lo + c.2.1)
        pure (.yield (none, c.2.1 + 1, 0))
      else pure (.yield (none, c.2.1 + 1, 0))
    else do
      let some y ← ltAt' (lo + c.2.1 - 1) (lo + c.2.1) | pure (.done (some none, c.2.1, c.2.2))
      if y = true then pure (.done (none, c.2.1, c.2.2)) else pure (.yield (none, c.2.1 + 1, c.2.2 + 1))
def dPart (lo n N : Nat) : StateT SortSt Sem (Option Nat) := do
  rule "list.sort.descending-run"
  let c ← dwn lo (n + 1) N
  match c.1 with
  | some r => pure r
  | none =>
    if c.2.2 > 0 then do
      reverseSlice' (lo + c.2.1 - (c.2.2 + 1)) (lo + c.2.1)
      fin3 lo c.2.1 N
    else fin3 lo c.2.1 N
theorem cR_eq (lo N : Nat) : countRun' lo N = (do
    let c ← up lo 1 N
    match c.1 with
    | some r => pure r
    | none =>
      if (c.2 == N) = true then pure (some c.2)
      else if c.2 > 1 then do
        let some z ← ltAt' lo (lo + c.2 - 1) | pure none
        if z = true then pure (some c.2) else do
          reverseSlice' lo (lo + c.2)
          dPart lo c.2 N
      else dPart lo c.2 N) := by
  rw [countRun'_eq]
  dsimp only
  unfold dPart fin3 dwn up
  congr 1
  funext c
  obtain ⟨r, n⟩ := c
  cases r with
  | some r => rfl
  | none =>
    dsimp only
    congr 1
    congr 1
    · congr 1; funext x
      cases x with
      | none => rfl
      | some z =>
        dsimp only
        congr 1
        congr 1; funext _
        congr 1; funext _
        congr 1; funext c2
        obtain ⟨r2, n2, q2⟩ := c2
        cases r2 with
        | some r2 => rfl
        | none =>
          dsimp only
          split
          · congr 1; funext _
            congr 1; funext _
            congr 1
            funext c3; obtain ⟨r3, n3⟩ := c3; cases r3 <;> rfl
          · congr 1; funext _
            congr 1
            funext c3; obtain ⟨r3, n3⟩ := c3; cases r3 <;> rfl
    · congr 1; funext _
      congr 1; funext c2
      obtain ⟨r2, n2, q2⟩ := c2
      cases r2 with
      | some r2 => rfl
      | none =>
        dsimp only
        split
        · congr 1; funext _
          congr 1; funext _
          congr 1
          funext c3; obtain ⟨r3, n3⟩ := c3; cases r3 <;> rfl
        · congr 1; funext _
          congr 1
          funext c3; obtain ⟨r3, n3⟩ := c3; cases r3 <;> rfl
end TM

namespace TM
open PySem PyProof.Rows
structure TB (a0 : Array Keyed) (p : Array (Nat × Nat × Nat)) (lo : Nat) (x0 : Array Keyed) (st : SortSt) : Prop where
  perm : (arrOf st).Perm a0
  kind : kindOf st = oneType'
  failed : failedOf st = none
  pend : pendingOf st = p
  pre : ∀ i, i < lo → (arrOf st)[i]? = x0[i]?
def Up (xs : Array Keyed) (lo m : Nat) : Prop := ∀ i j, i ≤ j → j < m → K xs (lo + i) ≤ K xs (lo + j)
def Dw (xs : Array Keyed) (lo m : Nat) : Prop := ∀ i j, i ≤ j → j < m → K xs (lo + j) ≤ K xs (lo + i)
section
variable {prog : Program} {w : World} {A : Around} {E : Value → Shared → Prop} {s : Shared} {a0 x0 : Array Keyed} {p : Array (Nat × Nat × Nat)} {lo N n : Nat} {st : SortSt}
theorem TB.size (B : TB a0 p lo x0 st) : (arrOf st).size = a0.size := B.perm.size_eq
theorem TB.isK (B : TB a0 p lo x0 st) (h0 : IntKeys a0) : ∀ i (h : i < (arrOf st).size), IsK (arrOf st)[i] := fun i h =>
  h0 _ ((Array.perm_iff_toList_perm.mp B.perm).mem_iff.mp (by simp))
theorem TB.lt (B : TB a0 p lo x0 st) (h0 : IntKeys a0) {i j : Nat} (hi : i < a0.size) (hj : j < a0.size) {Q : Option Bool → SortSt → Prop} (h : Q (some (decide (K (arrOf st) i < K (arrOf st) j))) st) : wpS (model prog w) A E s (ltAt' i j) Q st := by
  have hi' : i < (arrOf st).size := by rw [B.size]; exact hi
  have hj' : j < (arrOf st).size := by rw [B.size]; exact hj
  rw [ltAt'_eq]
  refine wpS_bind (wpS_get (wpS_bind (wpS_elem hi' (wpS_bind (wpS_elem hj' (wpS_lt B.kind (B.isK h0 i hi') (B.isK h0 j hj') ?_))))))
  rw [K_kv hi', K_kv hj'] at h
  exact h
theorem TB.rev (B : TB a0 p lo x0 st) {i j : Nat} (hi : lo ≤ i) (hj : j ≤ a0.size) : TB a0 p lo x0 (setArr st (mirror (arrOf st) i j ((j - i) / 2))) :=
  ⟨(mirror_perm _ _ _ _).trans B.perm, B.kind, B.failed, B.pend, fun k hk => by
    show (mirror (arrOf st) i j ((j - i) / 2))[k]? = _
    rw [getElem?_mirror_all (by rw [B.size]; exact hj), if_neg (by omega)]
    exact B.pre k hk⟩
theorem wp_up {Q : C2 → SortSt → Prop} (h0 : IntKeys a0) (hN : lo + N ≤ a0.size) (n1 : 1 ≤ n) (nN : n ≤ N) (B : TB a0 p lo x0 st) (hs : Up (arrOf st) lo n)
    (h : ∀ m, n ≤ m → m ≤ N → Up (arrOf st) lo m → (m = N ∨ K (arrOf st) (lo + m) < K (arrOf st) (lo + m - 1)) → Q (none, m) st) : wpS (model prog w) A E s (up lo n N) Q st := by
  unfold up
  refine wpS_forRange (I := fun x c st' => st' = st ∧ c = (none, x) ∧ Up (arrOf st) lo x) ?_ ?_ ⟨rfl, rfl, hs⟩
  · rintro x c st' nx xN ⟨rfl, rfl, hs'⟩
    dsimp only
    refine wpS_bind (B.lt h0 (by omega) (by omega) ?_)
    by_cases c0 : K (arrOf st') (lo + x) < K (arrOf st') (lo + x - 1)
    · simp only [c0, decide_true, if_true]
      exact wpS_pure (h x nx (by omega) hs' (.inr c0))
    · simp only [c0, decide_false, Bool.false_eq_true, if_false]
      refine wpS_pure ⟨rfl, rfl, fun i j ij hj => ?_⟩
      rcases Nat.lt_or_ge j x with z | z
      · exact hs' i j ij z
      · have : j = x := by omega
        subst this
        rcases Nat.lt_or_ge i j with y | y
        · refine Int.le_trans (hs' i (j - 1) (by omega) (by omega)) ?_
          rw [show lo + (j - 1) = lo + j - 1 by omega]; exact Int.not_lt.mp c0
        · have : i = j := by omega
          subst this; exact Int.le_refl _
  · rintro c st' ⟨rfl, rfl, hs'⟩
    rw [Nat.max_eq_right nN] at hs' ⊢
    exact h N nN (Nat.le_refl _) hs' (.inl rfl)
theorem wp_fin3 {Q : Option Nat → SortSt → Prop} (h0 : IntKeys a0) (hN : lo + N ≤ a0.size) (n1 : 1 ≤ n) (nN : n ≤ N) (B : TB a0 p lo x0 st) (hs : Dw (arrOf st) lo n)
    (h : ∀ m st', TB a0 p lo x0 st' → 1 ≤ m → m ≤ N → Up (arrOf st') lo m → Q (some m) st') : wpS (model prog w) A E s (fin3 lo n N) Q st := by
  unfold fin3
  have hsz : lo + n ≤ (arrOf st).size := by rw [B.size]; omega
  have B' := B.rev (i := lo) (j := lo + n) (Nat.le_refl _) (by omega)
  refine wpS_bind (wpS_reverse (wpS_bind (wp_up h0 hN n1 nN B' (fun i j ij hj => ?_) fun m h1 h2 hu _ => wpS_pure (h m _ B' (by omega) h2 hu))))
  show K (mirror (arrOf st) lo (lo + n) ((lo + n - lo) / 2)) (lo + i) ≤ K (mirror (arrOf st) lo (lo + n) ((lo + n - lo) / 2)) (lo + j)
  rw [K_mirror hsz, K_mirror hsz, if_pos (by omega), if_pos (by omega), show lo + (lo + n) - 1 - (lo + i) = lo + (n - 1 - i) by omega, show lo + (lo + n) - 1 - (lo + j) = lo + (n - 1 - j) by omega]
  exact hs _ _ (by omega) (by omega)
theorem wp_dwn {Q : C3 → SortSt → Prop} (h0 : IntKeys a0) (hN : lo + N ≤ a0.size) (n1 : 1 ≤ n) (nN : n ≤ N) (B : TB a0 p lo x0 st) (hs : Dw (arrOf st) lo n)
    (h : ∀ m e st', TB a0 p lo x0 st' → n ≤ m → m ≤ N → Dw (arrOf st') lo m → e < m → (∀ i, lo + m - (e + 1) ≤ i → i < lo + m → K (arrOf st') i = K (arrOf st') (lo + m - 1)) → Q (none, m, e) st') : wpS (model prog w) A E s (dwn lo n N) Q st := by
  unfold dwn
  refine wpS_forRange (I := fun x c st' => ∃ e, c = (none, x, e) ∧ TB a0 p lo x0 st' ∧ Dw (arrOf st') lo x ∧ e < x ∧ ∀ i, lo + x - (e + 1) ≤ i → i < lo + x → K (arrOf st') i = K (arrOf st') (lo + x - 1)) ?_ ?_
    ⟨0, rfl, B, hs, by omega, fun i h1 h2 => by congr 1; omega⟩
  · rintro x c st' nx xN ⟨e, rfl, B', hs', ex, he⟩
    dsimp only
    have hsz : lo + x ≤ (arrOf st').size := by rw [B'.size]; omega
    refine wpS_bind (B'.lt h0 (by omega) (by omega) ?_)
    have grow : ∀ xs : Array Keyed, (∀ k, K xs k = K (arrOf st') k) → K (arrOf st') (lo + x) ≤ K (arrOf st') (lo + x - 1) → Dw xs lo (x + 1) := fun xs hk le i j ij hj => by
      rw [hk, hk]
      rcases Nat.lt_or_ge j x with z | z
      · exact hs' i j ij z
      · have : j = x := by omega
        subst this
        rcases Nat.lt_or_ge i j with y | y
        · refine Int.le_trans le ?_
          rw [show lo + j - 1 = lo + (j - 1) by omega]; exact hs' i (j - 1) (by omega) (by omega)
        · have : i = j := by omega
          subst this; exact Int.le_refl _
    by_cases c0 : K (arrOf st') (lo + x) < K (arrOf st') (lo + x - 1)
    · simp only [c0, decide_true, if_true]
      by_cases c1 : e > 0
      · rw [if_pos c1]
        exact wpS_bind (wpS_reverse (wpS_pure ⟨0, rfl, B'.rev (by omega) (by omega), grow _ (K_mirror_equal hsz he) (Int.le_of_lt c0), by omega, fun i h1 h2 => by congr 1; omega⟩))
      · rw [if_neg c1]
        exact wpS_pure ⟨0, rfl, B', grow _ (fun _ => rfl) (Int.le_of_lt c0), by omega, fun i h1 h2 => by congr 1; omega⟩
    · simp only [c0, decide_false, Bool.false_eq_true, if_false]
      refine wpS_bind (B'.lt h0 (by omega) (by omega) ?_)
      by_cases c1 : K (arrOf st') (lo + x - 1) < K (arrOf st') (lo + x)
      · simp only [c1, decide_true, if_true]
        exact wpS_pure (h x e st' B' nx (by omega) hs' ex he)
      · simp only [c1, decide_false, Bool.false_eq_true, if_false]
        refine wpS_pure ⟨e + 1, rfl, B', grow _ (fun _ => rfl) (Int.not_lt.mp c1), by omega, fun i h1 h2 => ?_⟩
        rw [show lo + (x + 1) - 1 = lo + x by omega]
        rcases Nat.lt_or_ge i (lo + x) with z | z
        · rw [he i (by omega) z]; omega
        · congr 1; omega
  · rintro c st' ⟨e, rfl, B', hs', ex, he⟩
    rw [Nat.max_eq_right nN] at hs' ex he ⊢
    exact h N e st' B' nN (Nat.le_refl _) hs' ex he
theorem wp_dPart {Q : Option Nat → SortSt → Prop} (h0 : IntKeys a0) (hN : lo + N ≤ a0.size) (nN : n + 1 ≤ N) (B : TB a0 p lo x0 st) (hs : Dw (arrOf st) lo (n + 1))
    (h : ∀ m st', TB a0 p lo x0 st' → 1 ≤ m → m ≤ N → Up (arrOf st') lo m → Q (some m) st') : wpS (model prog w) A E s (dPart lo n N) Q st := by
  unfold dPart
  refine wpS_bind (wpS_lift (wpAny_rule ⟨rfl, ?_⟩))
  refine wpS_bind (wp_dwn h0 hN (by omega) nN B hs fun m e st' B' h1 h2 hd em he => ?_)
  dsimp only
  have hsz : lo + m ≤ (arrOf st').size := by rw [B'.size]; omega
  by_cases c0 : e > 0
  · rw [if_pos c0]
    refine wpS_bind (wpS_reverse (wp_fin3 h0 hN (by omega) h2 (B'.rev (by omega) (by omega)) (fun i j ij hj => ?_) h))
    show K (mirror (arrOf st') _ _ _) (lo + j) ≤ K (mirror (arrOf st') _ _ _) (lo + i)
    rw [K_mirror_equal hsz he, K_mirror_equal hsz he]
    exact hd i j ij hj
  · rw [if_neg c0]
    exact wp_fin3 h0 hN (by omega) h2 B' hd h
theorem wp_cR {Q : Option Nat → SortSt → Prop} (h0 : IntKeys a0) (hN : lo + N ≤ a0.size) (N1 : 1 ≤ N) (B : TB a0 p lo x0 st)
    (h : ∀ m st', TB a0 p lo x0 st' → 1 ≤ m → m ≤ N → Up (arrOf st') lo m → Q (some m) st') : wpS (model prog w) A E s (countRun' lo N) Q st := by
  rw [cR_eq]
  refine wpS_bind (wp_up h0 hN (Nat.le_refl 1) N1 B (fun i j ij hj => by rw [show i = j by omega]; exact Int.le_refl _) fun n n1 nN hu hor => ?_)
  dsimp only
  by_cases c0 : n = N
  · rw [if_pos (by simpa using c0)]
    exact wpS_pure (h n st B n1 nN hu)
  · rw [if_neg (by simpa using c0)]
    have lt := hor.resolve_left c0
    by_cases c1 : n > 1
    · rw [if_pos c1]
      refine wpS_bind (B.lt h0 (by omega) (by omega) ?_)
      by_cases c2 : K (arrOf st) lo < K (arrOf st) (lo + n - 1)
      · simp only [c2, decide_true, if_true]
        exact wpS_pure (h n st B n1 nN hu)
      · simp only [c2, decide_false, Bool.false_eq_true, if_false]
        have hsz : lo + n ≤ (arrOf st).size := by rw [B.size]; omega
        have all : ∀ k, lo ≤ k → k < lo + n → K (arrOf st) k = K (arrOf st) (lo + n - 1) := fun k h1 h2 => by
          have z1 := hu 0 (k - lo) (by omega) (by omega)
          have z2 := hu (k - lo) (n - 1) (by omega) (by omega)
          rw [show lo + (k - lo) = k by omega] at z1 z2
          rw [show lo + (n - 1) = lo + n - 1 by omega] at z2
          rw [show lo + 0 = lo by omega] at z1
          omega
        refine wpS_bind (wpS_reverse (wp_dPart h0 hN (by omega) (B.rev (Nat.le_refl _) (by omega)) (fun i j ij hj => ?_) h))
        show K (mirror (arrOf st) _ _ _) (lo + j) ≤ K (mirror (arrOf st) _ _ _) (lo + i)
        rw [K_mirror_equal hsz all, K_mirror_equal hsz all]
        rcases Nat.lt_or_ge j n with z | z
        · rw [all _ (by omega) (by omega), all (lo + i) (by omega) (by omega)]; exact Int.le_refl _
        · have : j = n := by omega
          subst this
          rcases Nat.lt_or_ge i j with y | y
          · rw [all (lo + i) (by omega) (by omega)]; exact Int.le_of_lt lt
          · rw [show i = j by omega]; exact Int.le_refl _
    · rw [if_neg c1]
      have : n = 1 := by omega
      subst this
      refine wp_dPart h0 hN (by omega) B (fun i j ij hj => ?_) h
      rcases Nat.lt_or_ge i j with y | y
      · have e1 : i = 0 := by omega
        have e2 : j = 1 := by omega
        subst e1; subst e2
        exact Int.le_of_lt lt
      · rw [show i = j by omega]; exact Int.le_refl _
theorem wp_bS {Q : Bool → SortSt → Prop} {ok : Nat} (h0 : IntKeys a0) (hn : lo + n ≤ a0.size) (hok : ok ≤ n) (B : TB a0 p lo x0 st) (hs : Up (arrOf st) lo ok)
    (h : ∀ st', TB a0 p lo x0 st' → Up (arrOf st') lo n → Q true st') : wpS (model prog w) A E s (binarySort' lo n ok) Q st := by
  rw [binarySort'_eq]
  dsimp only
  refine wpS_bind (wpS_mono (wpS_forRange (I := fun k c st' => c = (none, ()) ∧ TB a0 p lo x0 st' ∧ Up (arrOf st') lo (min k n))
    (Q := fun c st' => c = (none, ()) ∧ TB a0 p lo x0 st' ∧ Up (arrOf st') lo n) ?_ ?_ ⟨rfl, B, fun i j ij hj => ?_⟩) ?_)
  · rintro k c st' ak kn ⟨rfl, B', hs'⟩
    rw [Nat.min_eq_left (by omega)] at hs'
    refine wpS_bind (wpS_mono (wpS_forRange (I := fun x c st2 => st2 = st' ∧ ∃ l r, c = (none, l, r) ∧ l ≤ r ∧ r ≤ k ∧ r - l ≤ k - x ∧ (∀ i, i < l → K (arrOf st') (lo + i) ≤ K (arrOf st') (lo + k)) ∧ (∀ i, r ≤ i → i < k → K (arrOf st') (lo + k) < K (arrOf st') (lo + i)))
      (Q := fun c st2 => st2 = st' ∧ ∃ l r, c = (none, l, r) ∧ l ≤ k ∧ (∀ i, i < l → K (arrOf st') (lo + i) ≤ K (arrOf st') (lo + k)) ∧ (∀ i, l ≤ i → i < k → K (arrOf st') (lo + k) < K (arrOf st') (lo + i))) ?_ ?_ ⟨rfl, 0, k, rfl, by omega, by omega, by omega, fun i hi => by omega, fun i h1 h2 => by omega⟩) ?_)
    · rintro x c st2 _ xk ⟨rfl, l, r, rfl, lr, rk, d, hl, hh⟩
      dsimp only
      by_cases c0 : l ≥ r
      · rw [if_pos c0]
        have : l = r := by omega
        subst this
        exact wpS_pure ⟨rfl, l, l, rfl, rk, hl, hh⟩
      · rw [if_neg c0]
        refine wpS_bind (B'.lt h0 (by omega) (by omega) ?_)
        by_cases c1 : K (arrOf st2) (lo + k) < K (arrOf st2) (lo + (l + r) / 2)
        · simp only [c1, decide_true, if_true]
          exact wpS_pure ⟨rfl, l, _, rfl, by omega, by omega, by omega, hl, fun i h1 h2 => Int.lt_of_lt_of_le c1 (hs' _ _ h1 h2)⟩
        · simp only [c1, decide_false, Bool.false_eq_true, if_false]
          exact wpS_pure ⟨rfl, _, r, rfl, by omega, by omega, by omega, fun i h1 => Int.le_trans (hs' i ((l + r) / 2) (by omega) (by omega)) (Int.not_lt.mp c1), hh⟩
    · rintro c st2 ⟨rfl, l, r, rfl, lr, rk, d, hl, hh⟩
      have : l = r := by omega
      subst this
      exact ⟨rfl, l, l, rfl, rk, hl, hh⟩
    · rintro c st2 ⟨rfl, l, r, rfl, lk, hl, hh⟩
      dsimp only
      rw [moveDown'_eq]
      have hks : lo + k < (arrOf st2).size := by rw [B'.size]; omega
      refine wpS_bind (wpS_modify (wpS_pure ⟨rfl, ⟨(bubble_perm _ _ _).trans B'.perm, B'.kind, B'.failed, B'.pend, fun i hi => ?_⟩, fun i j ij hj => ?_⟩))
      · show (bubble (arrOf st2) (lo + k) (lo + k - (lo + l)))[i]? = _
        rw [getElem?_bubble hks _ (by omega), if_neg (by omega), if_neg (by omega)]
        exact B'.pre i hi
      · rw [Nat.min_eq_left (by omega)] at hj
        show K (bubble (arrOf st2) (lo + k) (lo + k - (lo + l))) (lo + i) ≤ K (bubble (arrOf st2) (lo + k) (lo + k - (lo + l))) (lo + j)
        have kb : ∀ i, i ≤ k → K (bubble (arrOf st2) (lo + k) (lo + k - (lo + l))) (lo + i) = if i = l then K (arrOf st2) (lo + k) else if l < i then K (arrOf st2) (lo + (i - 1)) else K (arrOf st2) (lo + i) := fun i hi => by
          rw [K_bubble hks (by omega)]
          by_cases e1 : i = l
          · rw [if_pos (by omega), if_pos e1]
          · rw [if_neg (by omega), if_neg e1]
            by_cases e2 : l < i
            · rw [if_pos (by omega), if_pos e2, show lo + i - 1 = lo + (i - 1) by omega]
            · rw [if_neg (by omega), if_neg e2]
        rw [kb i (by omega), kb j (by omega)]
        repeat' split
        all_goals first
          | (exfalso; omega)
          | exact Int.le_refl _
          | exact hl _ (by omega)
          | exact Int.le_of_lt (hh _ (by omega) (by omega))
          | exact hs' _ _ (by omega) (by omega)
  · rintro c st' ⟨rfl, B', hs'⟩
    refine ⟨rfl, B', ?_⟩
    rwa [show min (max (max ok 1) n) n = n by omega] at hs'
  · rcases Nat.eq_zero_or_pos ok with z | z
    · rw [show i = j by omega]; exact Int.le_refl _
    · exact hs i j ij (by omega)
  · rintro c st' ⟨rfl, B', hs'⟩
    exact wpS_pure (h st' B' hs')
end
end TM

namespace TM
open PySem PyProof.Rows
theorem fold_set (sa : Nat) : ∀ (M : List Keyed) (k : Nat) (xs : Array Keyed), sa + k + M.length ≤ xs.size →
    ((M.zipIdx k).foldl (fun a (q : Keyed × Nat) => a.setIfInBounds (sa + q.2) q.1) xs).toList = xs.toList.take (sa + k) ++ M ++ xs.toList.drop (sa + k + M.length)
  | [], k, xs, h => by
    rw [List.zipIdx_nil, List.foldl_nil, List.append_nil, List.length_nil, Nat.add_zero, List.take_append_drop]
  | q :: M, k, xs, h => by
    rw [List.length_cons] at h
    rw [List.zipIdx_cons, List.foldl_cons, fold_set sa M (k + 1) _ (by rw [Array.size_setIfInBounds]; omega), Array.toList_setIfInBounds]
    have hl : sa + k < xs.toList.length := by show sa + k < xs.size; omega
    have e1 : (xs.toList.set (sa + k) q).take (sa + (k + 1)) = xs.toList.take (sa + k) ++ [q] := by
      rw [show sa + (k + 1) = sa + k + 1 by omega, List.take_add_one, List.getElem?_set_self hl, List.take_set_of_le (Nat.le_refl _)]
      rfl
    have e2 : (xs.toList.set (sa + k) q).drop (sa + (k + 1) + M.length) = xs.toList.drop (sa + k + (q :: M).length) := by
      rw [List.drop_set_of_lt (by omega), List.length_cons]
      congr 1; omega
    rw [e1, e2, List.append_assoc, List.append_assoc, List.append_assoc]
    rfl
theorem er {α : Type} (x y z : α) : (#[x, y].setIfInBounds 0 z).eraseIdxIfInBounds 1 = #[z] := by
  simp [Array.eraseIdxIfInBounds, Array.setIfInBounds]
theorem mA_eq (i : Nat) : mergeAt' i = (do
  let s ← get
  let (some (u, m, pw), some (v, n, _)) := ((pendingOf s)[i]?, (pendingOf s)[i + 1]?) | unsupported "internal:list.sort.pending"
  set (SortSt.mk' (kindOf s) (arrOf s) (((pendingOf s).setIfInBounds i (u, m + n, pw)).eraseIdxIfInBounds (i + 1)) (gallopOf s) (failedOf s))
  let some k ← gal false (← elem' (arrOf s) v) (arrOf s) u m 0 | return false
  let (u, m) := (u + k, m - k)
  if m == 0 then return true
  let some n ← gal true (← elem' (arrOf s) (u + m - 1)) (arrOf s) v n (n - 1) | return false
  if n == 0 then return true
  let x := (arrOf s).extract u v
  let y := (arrOf s).extract v (v + n)
  let r ← if m ≤ n then mLo x y else mHi x y
  modify fun s => setArr s (r.toList.zipIdx.foldl (fun a (p, j) => a.setIfInBounds (u + j) p) (arrOf s))
  return (failedOf (← get)).isNone) := rfl
section
variable {prog : Program} {w : World} {A : Around} {E : Value → Shared → Prop} {s : Shared} {a0 : Array Keyed} {st : SortSt}
theorem up_pair {xs : Array Keyed} {lo m : Nat} (h : Up xs lo m) (hm : lo + m ≤ xs.size) : (xs.extract lo (lo + m)).toList.Pairwise Le := by
  rw [Array.toList_extract, List.extract_eq_take_drop, Nat.add_sub_cancel_left]
  refine List.pairwise_iff_getElem.mpr fun i j hi hj ij => ?_
  rw [List.length_take, List.length_drop] at hi hj
  rw [List.getElem_take, List.getElem_take, List.getElem_drop, List.getElem_drop]
  have hj' : lo + j < xs.size := by omega
  have := h i j (by omega) (by omega)
  rw [K_kv hj', K_kv (show lo + i < xs.size by omega)] at this
  exact this
theorem mem_ext {xs : Array Keyed} {u v : Nat} {q : Keyed} (h : q ∈ (xs.extract u v).toList) : ∃ t, u ≤ t ∧ t < v ∧ ∃ h : t < xs.size, q = xs[t] := by
  rw [Array.toList_extract, List.extract_eq_take_drop] at h
  obtain ⟨t, ht, e⟩ := mem_chunk h
  obtain ⟨hl, rfl⟩ := List.getElem?_eq_some_iff.mp e
  exact ⟨u + t, by omega, by omega, hl, rfl⟩
theorem ext_isK {xs : Array Keyed} (h : ∀ i (h : i < xs.size), IsK xs[i]) {u v : Nat} : ∀ i (h : i < (xs.extract u v).size), IsK (xs.extract u v)[i] := fun i hi => by
  rw [Array.getElem_extract]; exact h _ _
theorem wp_mA {Q : Bool → SortSt → Prop} {n1 pw : Nat} (h0 : IntKeys a0) (hp : (arrOf st).Perm a0) (hk : kindOf st = oneType') (hf : failedOf st = none) (hpe : pendingOf st = #[(0, n1, pw), (n1, a0.size - n1, 0)]) (h1 : 0 < n1) (h2 : n1 < a0.size)
    (u1 : Up (arrOf st) 0 n1) (u2 : Up (arrOf st) n1 (a0.size - n1))
    (h : ∀ st', (arrOf st').Perm a0 → failedOf st' = none → pendingOf st' = #[(0, a0.size, pw)] → SortedTo (arrOf st') a0.size → Q true st') : wpS (model prog w) A E s (mergeAt' 0) Q st := by
  have hsz : (arrOf st).size = a0.size := hp.size_eq
  have hI : ∀ i (h : i < (arrOf st).size), IsK (arrOf st)[i] := fun i h => h0 _ ((Array.perm_iff_toList_perm.mp hp).mem_iff.mp (by simp))
  rw [mA_eq]
  refine wpS_bind (wpS_get ?_)
  have e1 : (pendingOf st)[0]? = some (0, n1, pw) := by rw [hpe]; rfl
  have e2 : (pendingOf st)[0 + 1]? = some (n1, a0.size - n1, 0) := by rw [hpe]; rfl
  rw [e1, e2]
  dsimp only
  generalize hS : SortSt.mk' (kindOf st) (arrOf st) (((pendingOf st).setIfInBounds 0 (0, n1 + (a0.size - n1), pw)).eraseIdxIfInBounds (0 + 1)) (gallopOf st) (failedOf st) = st1
  have k1 : kindOf st1 = oneType' := by rw [← hS]; exact hk
  have a1 : arrOf st1 = arrOf st := by rw [← hS]
  have p1 : pendingOf st1 = #[(0, a0.size, pw)] := by
    rw [← hS]; show ((pendingOf st).setIfInBounds 0 (0, n1 + (a0.size - n1), pw)).eraseIdxIfInBounds (0 + 1) = _
    rw [hpe, show n1 + (a0.size - n1) = a0.size by omega]; exact er _ _ _
  have f1 : failedOf st1 = none := by rw [← hS]; exact hf
  refine wpS_bind (?_ : wpS _ _ _ _ (set st1) _ _)
  unfold wpS
  rw [StateT.run_set]
  refine wpAny_pure ⟨rfl, ?_⟩
  clear hS
  have K1 : ∀ i j, i ≤ j → j < n1 → K (arrOf st) i ≤ K (arrOf st) j := fun i j ij hj => by have := u1 i j ij hj; rwa [Nat.zero_add, Nat.zero_add] at this
  have K2 : ∀ i j, n1 ≤ i → i ≤ j → j < a0.size → K (arrOf st) i ≤ K (arrOf st) j := fun i j hi ij hj => by have := u2 (i - n1) (j - n1) (by omega) (by omega); rwa [show n1 + (i - n1) = i by omega, show n1 + (j - n1) = j by omega] at this
  have hv : n1 < (arrOf st).size := by omega
  refine wpS_bind (wpS_elem hv ?_)
  refine wpS_bind (wpS_gal k1 hI (hI _ hv) (by omega) (by omega) (fun t u tu un hh => ?_) fun k kn g1 g2 => ?_)
  · simp only [bp, Bool.false_eq_true, if_false, Bool.not_eq_true', decide_eq_false_iff_not, Int.not_lt, Nat.zero_add] at hh ⊢
    exact Int.le_trans (K1 _ _ tu un) hh
  have L1 : ∀ t, t < k → K (arrOf st) t ≤ K (arrOf st) n1 := fun t ht => by
    have := g1 t ht
    simp only [bp, Bool.false_eq_true, if_false, Bool.not_eq_true', decide_eq_false_iff_not, Int.not_lt, Nat.zero_add] at this
    rw [K_kv hv]; exact this
  have L2 : ∀ t, k ≤ t → t < n1 → K (arrOf st) n1 < K (arrOf st) t := fun t ht hh => by
    have := g2 t ht hh
    simp only [bp, Bool.false_eq_true, if_false, Bool.not_eq_false', decide_eq_true_eq, Nat.zero_add] at this
    rw [K_kv hv]; exact this
  clear g1 g2
  dsimp only
  have all : (∀ i, i < n1 → K (arrOf st) i ≤ K (arrOf st) n1) → SortedTo (arrOf st1) a0.size := fun hh i j ij hj => by
    rw [a1]
    rcases Nat.lt_or_ge j n1 with z | z
    · exact K1 i j ij z
    · rcases Nat.lt_or_ge i n1 with y | y
      · exact Int.le_trans (hh i y) (K2 n1 j (Nat.le_refl _) z hj)
      · exact K2 i j y ij hj
  by_cases c0 : n1 - k = 0
  · rw [if_pos (by simpa using c0)]
    exact wpS_pure (h st1 (by rw [a1]; exact hp) f1 p1 (all fun i hi => L1 i (by omega)))
  · rw [if_neg (by simpa using c0)]
    have hl : 0 + k + (n1 - k) - 1 < (arrOf st).size := by omega
    refine wpS_bind (wpS_elem hl ?_)
    refine wpS_bind (wpS_gal k1 hI (hI _ hl) (by omega) (by omega) (fun t u tu un hh => ?_) fun n nn g1 g2 => ?_)
    · simp only [bp, if_true, decide_eq_true_eq] at hh ⊢
      exact Int.lt_of_le_of_lt (K2 _ _ (by omega) (by omega) (by omega)) hh
    have ll : K (arrOf st) (n1 - 1) = kv ((arrOf st)[0 + k + (n1 - k) - 1]'hl) := by rw [← K_kv hl]; congr 1; omega
    have R1 : ∀ t, t < n → K (arrOf st) (n1 + t) < K (arrOf st) (n1 - 1) := fun t ht => by
      have := g1 t ht
      simp only [bp, if_true, decide_eq_true_eq] at this
      rw [ll]; exact this
    have R2 : ∀ t, n ≤ t → t < a0.size - n1 → K (arrOf st) (n1 - 1) ≤ K (arrOf st) (n1 + t) := fun t ht hh => by
      have := g2 t ht hh
      simp only [bp, if_true, decide_eq_false_iff_not, Int.not_lt] at this
      rw [ll]; exact this
    clear g1 g2
    dsimp only
    by_cases c1 : n = 0
    · rw [if_pos (by simpa using c1)]
      refine wpS_pure (h st1 (by rw [a1]; exact hp) f1 p1 (all fun i hi => Int.le_trans (K1 i (n1 - 1) (by omega) (by omega)) ?_))
      have := R2 0 (by omega) (by omega)
      rwa [Nat.add_zero] at this
    · rw [if_neg (by simpa using c1), show 0 + k = k by omega]
      have sx : ((arrOf st).extract k n1).size = n1 - k := by rw [Array.size_extract]; omega
      have sy : ((arrOf st).extract n1 (n1 + n)).size = n := by rw [Array.size_extract]; omega
      have P : MP ((arrOf st).extract k n1) ((arrOf st).extract n1 (n1 + n)) := by
        refine ⟨ext_isK hI, ext_isK hI, ?_, ?_, by omega, by omega, fun q hq => ?_, fun q hq => ?_⟩
        · have := up_pair (xs := arrOf st) (lo := k) (m := n1 - k) (fun i j ij hj => K1 _ _ (by omega) (by omega)) (by omega)
          rwa [show k + (n1 - k) = n1 by omega] at this
        · exact up_pair (xs := arrOf st) (lo := n1) (m := n) (fun i j ij hj => K2 _ _ (by omega) (by omega) (by omega)) (by omega)
        · obtain ⟨t, t1, t2, hh, rfl⟩ := mem_ext hq
          have := L2 t t1 t2
          rw [K_kv hh, K_kv hv] at this
          rw [Array.getElem_extract]; exact this
        · obtain ⟨t, t1, t2, hh, rfl⟩ := mem_ext hq
          have := R1 (t - n1) (by omega)
          rw [show n1 + (t - n1) = t by omega, K_kv hh, K_kv (show n1 - 1 < (arrOf st).size by omega)] at this
          have e : ((arrOf st).extract k n1)[((arrOf st).extract k n1).size - 1]'(by omega) = (arrOf st)[n1 - 1]'(by omega) := by
            rw [Array.getElem_extract]; congr 1; omega
          rw [e]; exact this
      have fin : ∀ (R : Array Keyed) (st2 : SortSt), OKR ((arrOf st).extract k n1).toList ((arrOf st).extract n1 (n1 + n)).toList R.toList → Sg st1 st2 →
          wpS (model prog w) A E s (do
            modify fun (s : SortSt) => setArr s (List.foldl (fun (a : Array Keyed) (x : Keyed × Nat) => a.setIfInBounds (k + x.snd) x.fst) (arrOf s) R.toList.zipIdx)
            let d ← get
            pure (failedOf d).isNone) Q st2 := fun R st2 ok G => by
        refine wpS_bind (wpS_modify (wpS_bind (wpS_get ?_)))
        have fE : (failedOf st2) = none := G.2.2.2.trans f1
        have pE : pendingOf st2 = #[(0, a0.size, pw)] := G.2.2.1.trans p1
        have aE : arrOf st2 = arrOf st := G.2.1.trans a1
        have rl : R.toList.length = (n1 - k) + n := by rw [ok.1.length_eq, List.length_append]; show ((arrOf st).extract k n1).size + ((arrOf st).extract n1 (n1 + n)).size = _; rw [sx, sy]
        have tl := fold_set k R.toList 0 (arrOf st) (by omega)
        rw [Nat.add_zero, rl, show k + (n1 - k + n) = n1 + n by omega] at tl
        show wpS _ _ _ _ (pure (failedOf st2).isNone) Q (setArr st2 (List.foldl _ (arrOf st2) R.toList.zipIdx))
        rw [fE, aE]
        generalize hZ : List.foldl (fun (a : Array Keyed) (x : Keyed × Nat) => a.setIfInBounds (k + x.snd) x.fst) (arrOf st) R.toList.zipIdx = Z at tl
        have split : (arrOf st).toList = (arrOf st).toList.take k ++ (((arrOf st).extract k n1).toList ++ ((arrOf st).extract n1 (n1 + n)).toList) ++ (arrOf st).toList.drop (n1 + n) := by
          rw [Array.toList_extract, Array.toList_extract, List.extract_eq_take_drop, List.extract_eq_take_drop, Nat.add_sub_cancel_left]
          have z1 : ((arrOf st).toList.drop k).take (n1 - k) ++ ((arrOf st).toList.drop n1).take n = ((arrOf st).toList.drop k).take (n1 + n - k) := by
            rw [show n1 + n - k = (n1 - k) + n by omega, List.take_add, List.drop_drop, show k + (n1 - k) = n1 by omega]
          rw [z1]
          have z2 := List.take_append_drop (n1 + n - k) ((arrOf st).toList.drop k)
          rw [List.drop_drop, show k + (n1 + n - k) = n1 + n by omega] at z2
          rw [List.append_assoc, z2, List.take_append_drop]
        have pz : Z.Perm a0 := by
          refine Array.Perm.trans (Array.perm_iff_toList_perm.mpr ?_) hp
          rw [tl]
          conv => rhs; rw [split]
          exact List.Perm.append_right _ (List.Perm.append_left _ ok.1)
        have zs : Z.size = a0.size := pz.size_eq
        refine wpS_pure (h _ pz fE pE ?_)
        have mx : ∀ q ∈ R.toList, ∃ t, k ≤ t ∧ t < n1 + n ∧ ∃ h : t < (arrOf st).size, q = (arrOf st)[t] := fun q hq => by
          rcases List.mem_append.mp (ok.1.mem_iff.mp hq) with z | z
          · obtain ⟨t, t1, t2, hh, e⟩ := mem_ext z; exact ⟨t, t1, by omega, hh, e⟩
          · obtain ⟨t, t1, t2, hh, e⟩ := mem_ext z; exact ⟨t, by omega, t2, hh, e⟩
        have lowR : ∀ i, i < k → ∀ t, k ≤ t → t < a0.size → K (arrOf st) i ≤ K (arrOf st) t := fun i hi t ht hh => by
          rcases Nat.lt_or_ge t n1 with z | z
          · exact K1 _ _ (by omega) z
          · exact Int.le_trans (L1 i hi) (K2 _ _ (Nat.le_refl _) z hh)
        have highR : ∀ j, n1 + n ≤ j → j < a0.size → ∀ t, t < n1 + n → K (arrOf st) t ≤ K (arrOf st) j := fun j hj hh t ht => by
          rcases Nat.lt_or_ge t n1 with z | z
          · refine Int.le_trans (K1 t (n1 - 1) (by omega) (by omega)) ?_
            have := R2 (j - n1) (by omega) (by omega)
            rwa [show n1 + (j - n1) = j by omega] at this
          · exact K2 _ _ z (by omega) hh
        have sorted : Z.toList.Pairwise Le := by
          rw [tl]
          have st1' : ∀ i j (hi : i < (arrOf st).size) (hj : j < (arrOf st).size), K (arrOf st) i ≤ K (arrOf st) j → Le (arrOf st)[i] (arrOf st)[j] := fun i j hi hj hh => by rw [K_kv hi, K_kv hj] at hh; exact hh
          have tk : ∀ q ∈ (arrOf st).toList.take k, ∃ t, t < k ∧ ∃ h : t < (arrOf st).size, q = (arrOf st)[t] := fun q hq => by
            obtain ⟨t, ht⟩ := List.mem_iff_getElem?.mp hq
            rw [List.getElem?_take] at ht
            by_cases c : t < k
            · rw [if_pos c] at ht
              obtain ⟨hl, rfl⟩ := List.getElem?_eq_some_iff.mp ht
              exact ⟨t, c, hl, rfl⟩
            · rw [if_neg c] at ht; cases ht
          have dk : ∀ q ∈ (arrOf st).toList.drop (n1 + n), ∃ t, n1 + n ≤ t ∧ ∃ h : t < (arrOf st).size, q = (arrOf st)[t] := fun q hq => by
            obtain ⟨t, ht⟩ := List.mem_iff_getElem?.mp hq
            rw [List.getElem?_drop] at ht
            obtain ⟨hl, rfl⟩ := List.getElem?_eq_some_iff.mp ht
            exact ⟨n1 + n + t, by omega, hl, rfl⟩
          refine List.pairwise_append.mpr ⟨List.pairwise_append.mpr ⟨?_, ok.2, fun p hp q hq => ?_⟩, ?_, fun p hp q hq => ?_⟩
          · have := up_pair (xs := arrOf st) (lo := 0) (m := k) (fun i j ij hj => by rw [Nat.zero_add, Nat.zero_add]; exact K1 _ _ ij (by omega)) (by omega)
            rwa [Nat.zero_add, ext0] at this
          · obtain ⟨i, i1, hi, rfl⟩ := tk p hp
            obtain ⟨t, t1, t2, ht, rfl⟩ := mx q hq
            exact st1' _ _ hi ht (lowR i i1 t t1 (by omega))
          · have := up_pair (xs := arrOf st) (lo := n1 + n) (m := a0.size - (n1 + n)) (fun i j ij hj => K2 _ _ (by omega) (by omega) (by omega)) (by omega)
            rw [Array.toList_extract, List.extract_eq_take_drop, List.take_of_length_le (by rw [List.length_drop]; show (arrOf st).size - (n1 + n) ≤ _; omega)] at this
            exact this
          · obtain ⟨j, j1, hj, rfl⟩ := dk q hq
            rcases List.mem_append.mp hp with z | z
            · obtain ⟨i, i1, hi, rfl⟩ := tk p z
              exact st1' _ _ hi hj (lowR i i1 j (by omega) (by omega))
            · obtain ⟨t, t1, t2, ht, rfl⟩ := mx p z
              exact st1' _ _ ht hj (highR j j1 (by omega) t t2)
        intro i j ij hj
        show K Z i ≤ K Z j
        exact K_mono sorted ij (by omega)
      split
      · exact wpS_bind (wpS_mLo k1 P fin)
      · exact wpS_bind (wpS_mHi k1 P fin)
end
end TM

namespace TM
open PySem PyProof.Rows
section
variable {prog : Program} {w : World} {A : Around} {E : Value → Shared → Prop} {s : Shared} {a0 : Array Keyed} {st : SortSt}
inductive At2 (a0 : Array Keyed) (x : Nat) (c : Option Unit × Nat) (st : SortSt) : Prop
  | none (e : x = 0) (h : c = (.none, 0)) (p : pendingOf st = #[])
  | one (n : Nat) (e : x = 1) (h : c = (.none, n)) (n1 : 0 < n) (n2 : n < a0.size) (r : a0.size ≤ 2 * n) (p : pendingOf st = #[(0, n, 0)]) (u : Up (arrOf st) 0 n)
  | two (n pw : Nat) (e : 0 < x) (h : c = (.none, a0.size)) (n1 : 0 < n) (n2 : n < a0.size) (p : pendingOf st = #[(0, n, pw), (n, a0.size - n, 0)]) (u : Up (arrOf st) 0 n) (v : Up (arrOf st) n (a0.size - n))
  | all (e : 0 < x) (h : c = (.none, a0.size)) (p : pendingOf st = #[(0, a0.size, 0)]) (u : Up (arrOf st) 0 a0.size)
structure Sb (a0 : Array Keyed) (st : SortSt) : Prop where
  perm : (arrOf st).Perm a0
  kind : kindOf st = oneType'
  failed : failedOf st = none
theorem wp_runs {Q : Unit → SortSt → Prop} (h0 : IntKeys a0) (hB : SBase a0 st) (h64 : 64 ≤ a0.size) (h128 : a0.size < 128)
    (h : ∀ st', (arrOf st').Perm a0 → failedOf st' = none → SortedTo (arrOf st') a0.size → Q () st') : wpS (model prog w) A E s sortRuns' Q st := by
  rw [sortRuns'_eq]
  dsimp only
  refine wpS_bind (wpS_get ?_)
  have hmr : minRun' a0.size a0.size 0 = a0.size / 2 + a0.size % 2 := by
    obtain ⟨f, hf⟩ : ∃ f, a0.size = f + 2 := ⟨a0.size - 2, by omega⟩
    have : minRun' (f + 1 + 1) a0.size 0 = a0.size / 2 + a0.size % 2 := by
      rw [minRun'_succ, if_neg (by omega), minRun'_succ, if_pos (by omega), Nat.max_eq_right (Nat.zero_le _)]
    rwa [← hf] at this
  simp only [hB.size, hmr]
  refine wpS_bind (wpS_mono (wpS_forRange (I := fun x c st' => Sb a0 st' ∧ At2 a0 x c st')
    (Q := fun c st' => Sb a0 st' ∧ ∃ x, c = (none, a0.size) ∧ At2 a0 x c st') ?_ ?_ ⟨⟨hB.perm, hB.kind, hB.failed⟩, .none rfl rfl hB.pend⟩) ?_)
  · rintro x c st' _ xN ⟨S, H⟩
    cases H with
    | two n pw e hh n1 n2 p u v =>
      subst hh
      dsimp only
      rw [if_pos (Nat.le_refl _)]
      exact wpS_pure ⟨S, _, rfl, .two n pw e rfl n1 n2 p u v⟩
    | all e hh p u =>
      subst hh
      dsimp only
      rw [if_pos (Nat.le_refl _)]
      exact wpS_pure ⟨S, _, rfl, .all e rfl p u⟩
    | none e hh p =>
      subst hh
      dsimp only
      rw [if_neg (by omega)]
      have B : TB a0 #[] 0 (arrOf st') st' := ⟨S.perm, S.kind, S.failed, p, fun _ _ => rfl⟩
      refine wpS_bind (wp_cR h0 (by omega) (by omega) B fun m st2 B2 m1 m2 u2 => ?_)
      dsimp only
      have last : ∀ n st3, TB a0 #[] 0 (arrOf st') st3 → a0.size / 2 + a0.size % 2 ≤ n → n ≤ a0.size → Up (arrOf st3) 0 n → Sb a0 (setPending st3 ((pendingOf st3).push (0, n, 0))) ∧ At2 a0 (x + 1) (none, 0 + n) (setPending st3 ((pendingOf st3).push (0, n, 0))) := fun n st3 B3 r1 r2 u3 => by
        have pp : pendingOf (setPending st3 ((pendingOf st3).push (0, n, 0))) = #[(0, n, 0)] := by show (pendingOf st3).push _ = _; rw [B3.pend]; rfl
        refine ⟨⟨B3.perm, B3.kind, B3.failed⟩, ?_⟩
        rw [Nat.zero_add]
        rcases Nat.lt_or_ge n a0.size with z | z
        · exact .one n (by omega) rfl (by omega) z (by omega) pp u3
        · have : n = a0.size := by omega
          subst this
          exact .all (by omega) rfl pp u3
      by_cases c0 : m < a0.size / 2 + a0.size % 2
      · rw [if_pos c0]
        refine wpS_bind (wpS_lift (wpAny_rule ⟨rfl, ?_⟩))
        have em : min (a0.size - 0) (a0.size / 2 + a0.size % 2) = a0.size / 2 + a0.size % 2 := by omega
        rw [em]
        refine wpS_bind (wp_bS h0 (by omega) (by omega) B2 u2 fun st3 B3 u3 => ?_)
        simp only [Bool.not_true, Bool.false_eq_true, if_false]
        refine wpS_bind (wpS_get ?_)
        have hb : (pendingOf st3).back? = none := by rw [B3.pend]; rfl
        rw [hb]
        dsimp only
        exact wpS_bind (wpS_modify (wpS_pure (last _ st3 B3 (Nat.le_refl _) (by omega) u3)))
      · rw [if_neg c0]
        refine wpS_bind (wpS_get ?_)
        have hb : (pendingOf st2).back? = none := by rw [B2.pend]; rfl
        rw [hb]
        dsimp only
        exact wpS_bind (wpS_modify (wpS_pure (last _ st2 B2 (by omega) (by omega) u2)))
    | one n e hh n1 n2 r p u =>
      subst hh
      dsimp only
      rw [if_neg (by omega)]
      have B : TB a0 #[(0, n, 0)] n (arrOf st') st' := ⟨S.perm, S.kind, S.failed, p, fun _ _ => rfl⟩
      have keep : ∀ st3, TB a0 #[(0, n, 0)] n (arrOf st') st3 → Up (arrOf st3) 0 n := fun st3 B3 i j ij hj => by
        rw [K_congr (B3.pre (0 + i) (by omega)), K_congr (B3.pre (0 + j) (by omega))]
        exact u i j ij hj
      refine wpS_bind (wp_cR h0 (by omega) (by omega) B fun m st2 B2 m1 m2 u2 => ?_)
      dsimp only
      have last : ∀ pw st3, TB a0 #[(0, n, 0)] n (arrOf st') st3 → Up (arrOf st3) n (a0.size - n) →
          Sb a0 (setPending (setPending st3 ((pendingOf st3).modify ((pendingOf st3).size - 1) fun (x : Nat × Nat × Nat) => (x.fst, x.2.fst, pw))) (((pendingOf st3).modify ((pendingOf st3).size - 1) fun (x : Nat × Nat × Nat) => (x.fst, x.2.fst, pw)).push (n, a0.size - n, 0))) ∧
          At2 a0 (x + 1) (none, n + (a0.size - n)) (setPending (setPending st3 ((pendingOf st3).modify ((pendingOf st3).size - 1) fun (x : Nat × Nat × Nat) => (x.fst, x.2.fst, pw))) (((pendingOf st3).modify ((pendingOf st3).size - 1) fun (x : Nat × Nat × Nat) => (x.fst, x.2.fst, pw)).push (n, a0.size - n, 0))) := fun pw st3 B3 u3 => by
        have pp : ((pendingOf st3).modify ((pendingOf st3).size - 1) fun (x : Nat × Nat × Nat) => (x.fst, x.2.fst, pw)).push (n, a0.size - n, 0) = #[(0, n, pw), (n, a0.size - n, 0)] := by rw [B3.pend]; rfl
        refine ⟨⟨B3.perm, B3.kind, B3.failed⟩, ?_⟩
        rw [show n + (a0.size - n) = a0.size by omega]
        exact .two n pw (by omega) rfl n1 n2 pp (keep st3 B3) u3
      by_cases c0 : m < a0.size / 2 + a0.size % 2
      · rw [if_pos c0]
        refine wpS_bind (wpS_lift (wpAny_rule ⟨rfl, ?_⟩))
        have em : min (a0.size - n) (a0.size / 2 + a0.size % 2) = a0.size - n := by omega
        rw [em]
        refine wpS_bind (wp_bS h0 (by omega) (by omega) B2 u2 fun st3 B3 u3 => ?_)
        simp only [Bool.not_true, Bool.false_eq_true, if_false]
        refine wpS_bind (wpS_get ?_)
        have hb : (pendingOf st3).back? = some (0, n, 0) := by rw [B3.pend]; rfl
        rw [hb]
        dsimp only
        refine wpS_bind (wpS_mono (wpS_forRange (I := fun _ c st4 => st4 = st3 ∧ c = (none, ())) (Q := fun c st4 => st4 = st3 ∧ c = (none, ())) ?_ (fun _ _ z => z) ⟨rfl, rfl⟩) ?_)
        · rintro _ c st4 _ _ ⟨rfl, rfl⟩
          refine wpS_bind (wpS_get ?_)
          have hs : (if (pendingOf st4).size > 1 then (pendingOf st4)[(pendingOf st4).size - 2]? else none) = none := by rw [B3.pend]; rfl
          rw [hs]
          exact wpS_pure ⟨rfl, rfl⟩
        · rintro c st4 ⟨rfl, rfl⟩
          exact wpS_bind (wpS_modify (wpS_bind (wpS_modify (wpS_pure (last _ st4 B3 u3)))))
      · rw [if_neg c0]
        have em : m = a0.size - n := by omega
        subst em
        refine wpS_bind (wpS_get ?_)
        have hb : (pendingOf st2).back? = some (0, n, 0) := by rw [B2.pend]; rfl
        rw [hb]
        dsimp only
        refine wpS_bind (wpS_mono (wpS_forRange (I := fun _ c st4 => st4 = st2 ∧ c = (none, ())) (Q := fun c st4 => st4 = st2 ∧ c = (none, ())) ?_ (fun _ _ z => z) ⟨rfl, rfl⟩) ?_)
        · rintro _ c st4 _ _ ⟨rfl, rfl⟩
          refine wpS_bind (wpS_get ?_)
          have hs : (if (pendingOf st4).size > 1 then (pendingOf st4)[(pendingOf st4).size - 2]? else none) = none := by rw [B2.pend]; rfl
          rw [hs]
          exact wpS_pure ⟨rfl, rfl⟩
        · rintro c st4 ⟨rfl, rfl⟩
          exact wpS_bind (wpS_modify (wpS_bind (wpS_modify (wpS_pure (last _ st4 B2 u2)))))
  · rintro c st' ⟨S, H⟩
    rw [Nat.max_eq_right (Nat.zero_le _)] at H
    cases H with
    | none e _ _ => omega
    | one n e hh n1 n2 r p u => omega
    | two n pw e hh n1 n2 p u v => exact ⟨S, _, hh, .two n pw e hh n1 n2 p u v⟩
    | all e hh p u => exact ⟨S, _, hh, .all e hh p u⟩
  · rintro c st' ⟨S, x, rfl, H⟩
    dsimp only
    refine wpS_bind (wpS_mono (wpS_forRange (I := fun y c st2 => c = (none, ()) ∧ ((y = 0 ∧ st2 = st') ∨ ((arrOf st2).Perm a0 ∧ failedOf st2 = none ∧ (∃ pw, pendingOf st2 = #[(0, a0.size, pw)]) ∧ SortedTo (arrOf st2) a0.size)))
      (Q := fun c st2 => c = (none, ()) ∧ (arrOf st2).Perm a0 ∧ failedOf st2 = none ∧ SortedTo (arrOf st2) a0.size) ?_ ?_ ⟨rfl, .inl ⟨rfl, rfl⟩⟩) ?_)
    · rintro y c st2 _ yN ⟨rfl, h | ⟨pe, fe, ⟨pw, pp⟩, so⟩⟩
      · obtain ⟨rfl, rfl⟩ := h
        refine wpS_bind (wpS_get ?_)
        cases H with
        | none e hh _ => have := congrArg Prod.snd hh; dsimp only at this; omega
        | one n e hh n1 n2 r p u => have := congrArg Prod.snd hh; dsimp only at this; omega
        | all e hh p u =>
          rw [if_pos (by rw [p]; exact Nat.le_refl 1)]
          refine wpS_pure ⟨rfl, S.perm, S.failed, fun i j ij hj => ?_⟩
          have := u i j ij hj
          rwa [Nat.zero_add, Nat.zero_add] at this
        | two n pw e hh n1 n2 p u v =>
          rw [if_neg (by rw [p]; show ¬ 2 ≤ 1; omega)]
          have ei : (pendingOf st2).size - 2 = 0 := by rw [p]; rfl
          have z : (if Option.any (fun x => decide (x < Option.elim (pendingOf st2)[(pendingOf st2).size - 2 + 1]? 0 fun x => x.2.fst)) (if (pendingOf st2).size - 2 > 0 then Option.map (fun x => x.2.fst) (pendingOf st2)[(pendingOf st2).size - 2 - 1]? else none) = true then (pendingOf st2).size - 2 - 1 else (pendingOf st2).size - 2) = 0 := by rw [ei]; rfl
          rw [z]
          refine wpS_bind (wp_mA h0 S.perm S.kind S.failed p n1 n2 u v fun st3 q1 q2 q3 q4 => ?_)
          simp only [Bool.not_true, Bool.false_eq_true, if_false]
          exact wpS_pure ⟨rfl, .inr ⟨q1, q2, ⟨pw, q3⟩, q4⟩⟩
      · refine wpS_bind (wpS_get ?_)
        rw [if_pos (by rw [pp]; exact Nat.le_refl 1)]
        exact wpS_pure ⟨rfl, pe, fe, so⟩
    · rintro c st2 ⟨rfl, h | ⟨pe, fe, _, so⟩⟩
      · omega
      · exact ⟨rfl, pe, fe, so⟩
    · rintro c st2 ⟨rfl, q1, q2, q3⟩
      exact wpS_pure (h _ q1 q2 q3)
end
end TM

namespace TM
open PySem PyProof.Rows
theorem list_sort128 {prog : Program} {w : World} {A : Around} {E : Value → Shared → Prop} {s : Shared} {a : Addr} {vs : List Value} {ns : List Int} {n : Nat} {P : PySem.Fin → Shared → Prop}
    (h : s.heap.get? a = some (seqObj "list" vs.toArray n)) (hi : IntsAre vs ns) (hl : vs.length < 128)
    (k : ∀ (out : Array Value) (ns' : List Int), IntsAre out.toList ns' → ns'.Perm ns → ns'.Pairwise (· ≤ ·) → P (Fin.done (Flow.ret Value.none)) { heap := sortedHeap s.heap a vs out, gens := s.gens, drawn := s.drawn, toks := s.toks, os := s.os }) :
    wpAny (model prog w) A (Builtin.«list.sort» { pos := [Value.ref a] }) P E s := by
  by_cases c : vs.length < 64
  · exact list_sort_tree h hi c k
  obtain ⟨v1, v2, vr, rfl⟩ : ∃ v1 v2 vr, vs = v1 :: v2 :: vr := by
    match vs, c with
    | [], c => exact absurd (by show 0 < 64; omega) c
    | [_], c => exact absurd (by show 1 < 64; omega) c
    | v1 :: v2 :: vr, _ => exact ⟨v1, v2, vr, rfl⟩
  generalize hv : v1 :: v2 :: vr = vs at *
  have sz : vs.toArray.size = vs.length := by simp
  have hL : vs.length ≤ sizeLine := by rw [sizeLine_eq]; omega
  rw [list_sort_plain]
  refine wpAny_bind (listItems_at h rfl ?_)
  refine wpAny_bind (listUpdate_at h rfl ?_ (by rw [sz]; exact hL) (Nat.zero_le _))
  have h1 := get?_update_seq h (fun _ => #[])
  generalize (if ((#[] : Array Value).size == vs.toArray.size) = true then n else n + 1) = n1 at h1
  refine wpAny_bind (seqEpoch_at h1 rfl ?_)
  refine wpAny_bind (wpAny_newTuple ?_ (by simpa using hL))
  refine wpAny_bind (wpAny_newList ?_ (Nat.zero_le _))
  refine wpAny_holding ?_
  have h2 : (((s.heap.update a (Obj.mapSeq fun _ => #[])).push (seqObj "tuple" vs.toArray 0)).push (seqObj "list" #[] 0)).get? a = some (seqObj "list" #[] n1) := Heap.get?_push_of_some _ (Heap.get?_push_of_some _ h1)
  rw [if_neg (by rw [sz]; omega)]
  have kk : keyKind' vs.toArray = pure oneType' := by rw [← hv]; exact keyKind_ints (by rw [hv]; exact hi)
  rw [kk]
  refine wpAny_bind (wpAny_pure ?_)
  dsimp only
  rw [if_neg (by rw [sz]; omega)]
  have B : SBase (pairsOf vs) (SortSt.mk' oneType' (vs.toArray.zip vs.toArray) #[] 7 none) := ⟨Array.Perm.refl _, rfl, rfl, rfl⟩
  refine wpAny_bind (wpAny_mono (wp_runs (a0 := pairsOf vs) (Q := fun _ st' => (arrOf st').Perm (pairsOf vs) ∧ failedOf st' = none ∧ SortedTo (arrOf st') (pairsOf vs).size) hi.intKeys B (by rw [pairsOf_size]; omega) (by rw [pairsOf_size]; omega) fun st' p1 p2 p3 => ⟨p1, p2, p3⟩) ?_ fun _ _ e => e)
  rintro r s' ⟨rfl, p1, p2, p3⟩
  refine wpAny_bind (seqEpoch_at h2 rfl ?_)
  have bz : (n1 != n1) = false := by simp
  obtain ⟨ns', q1, q2, q3⟩ := sorted_out hi p1 p3
  refine wpAny_bind (listUpdate_at h2 rfl ?_ (Nat.zero_le _) ?_)
  · rw [p2]
    dsimp only
    rw [bz]
    exact wpAny_pure (k _ ns' q1 q2 q3)
  · rw [Array.size_map, p1.size_eq, pairsOf_size]
    omega
end TM

namespace L2
open PySem PySem.Spec PyProof.Rows ST
def setO (P : Program) (w : World) (a : Addr) (D : List Key) : HO := .ext fun h => SetD (mixKind P w) h a D (ldW w)
section
variable {P : Program} {w : World} {H : Hp} {h : Heap} {a : Addr} {D : List Key}
theorem setO_ok (x : SetD (mixKind P w) h a D (ldW w)) : ObjOk P w H h a (setO P w a D) := by
  refine ⟨x, ?_, fun h1 h2 y k => ?_⟩
  · obtain ⟨o, _, _, _, e, _⟩ := x.set; exact ⟨o, e⟩
  · obtain ⟨o, _, _, _, e, _⟩ := (id y : SetD (mixKind P w) h1 a D (ldW w)).set
    exact SetD.keep (knd := mixKind P w) y (by rw [e, k o e])
theorem setO_of (ok : HOk P w H h) (e : H a = some (setO P w a D)) : SetD (mixKind P w) h a D (ldW w) := (ok a _ e).1
theorem mix_scan (k : Key) (v : Value) (e : (mixKind P w).is k v = true) : v.scannable = true := by
  cases k with
  | inl i =>
    have e : Value.isInt i v = true := e
    unfold Value.isInt at e
    split at e
    · rfl
    · cases e
  | inr x =>
    obtain ⟨t, rfl⟩ := Value.isStrOf_shape e
    rfl
end
def kle : Key → Key → Prop
  | .inl i, .inl j => i ≤ j
  | .inr x, .inr y => ¬ y.cps.toList < x.cps.toList
  | _, _ => False
def OneK (D : List Key) : Prop := (∃ ns : List Int, D = ns.map Sum.inl) ∨ ∃ ts : List Str, D = ts.map Sum.inr ∧ ts.length < 64
theorem rising_pwT : ∀ (p : Str) (l : List Str), PyProof.Rows.risingS p l = true → (p :: l).Pairwise (fun x y => ¬ y.cps.toList < x.cps.toList)
  | p, [], _ => by simp
  | p, x :: r, h => by
    have h : (!PySem.Spec.ltCps x.cps.toList p.cps.toList && PyProof.Rows.risingS x r) = true := h
    rw [Bool.and_eq_true, Bool.not_eq_true'] at h
    have ih := rising_pwT x r h.2
    have px : ¬ x.cps.toList < p.cps.toList := by
      have := h.1
      rw [PyProof.Rows.ltCps_eq] at this
      exact of_decide_eq_false this
    refine List.pairwise_cons.mpr ⟨fun y hy => ?_, ih⟩
    rcases List.mem_cons.mp hy with q | q
    · rw [q]; exact px
    · have a1 : p.cps.toList ≤ x.cps.toList := px
      have a2 : x.cps.toList ≤ y.cps.toList := (List.pairwise_cons.mp ih).1 y q
      exact List.le_trans a1 a2
theorem sortedS_pwT {l : List Str} (h : PyProof.Rows.sortedS l = true) : l.Pairwise (fun x y => ¬ y.cps.toList < x.cps.toList) := by
  cases l with
  | nil => simp
  | cons x r => exact rising_pwT x r h
section
variable {P : Program} {w : World}
def kkI : Key → Int | .inl i => i | .inr _ => 0
def kkS : Key → Str | .inl _ => "" | .inr x => x
theorem its_ints {ns : List Int} {vs : List Value} (h : ST.Its (mixKind P w) (ns.map Sum.inl) vs) : ∃ ns0 : List Int, ns0.Perm ns ∧ IntsAre vs ns0 := by
  obtain ⟨ks, pm, kl, ke⟩ := h
  refine ⟨ks.map kkI, ?_, ?_⟩
  · have := pm.map kkI
    rw [List.map_map] at this
    have e : (kkI ∘ Sum.inl) = (id : Int → Int) := rfl
    rw [e, List.map_id] at this
    exact this
  · have al : ∀ k ∈ ks, ∃ i, k = Sum.inl i := fun k m => by
      obtain ⟨i, _, e⟩ := List.mem_map.mp (pm.mem_iff.mp m)
      exact ⟨i, e.symm⟩
    clear pm
    induction ks generalizing vs with
    | nil =>
      cases vs with
      | nil => exact .nil
      | cons a b => cases kl
    | cons k ks ih =>
      cases vs with
      | nil => cases kl
      | cons v vs =>
        obtain ⟨i, rfl⟩ := al k (List.mem_cons_self ..)
        have e2 : Value.isInt i v = true := (ke 0 _ v rfl rfl).1
        obtain ⟨tk, rfl⟩ : ∃ t, v = .int i t := by
          unfold Value.isInt at e2
          split at e2
          · next n tk => exact ⟨tk, by simp at e2; rw [e2]⟩
          · cases e2
        exact .cons i tk (ih (Nat.succ.inj kl) (fun j k v e1 e2 => ke (j + 1) k v e1 e2) fun k m => al k (List.mem_cons_of_mem _ m))
theorem its_strs {ts : List Str} {vs : List Value} (h : ST.Its (mixKind P w) (ts.map Sum.inr) vs) : ∃ ts0 : List Str, ts0.Perm ts ∧ StrsAre vs ts0 := by
  obtain ⟨ks, pm, kl, ke⟩ := h
  refine ⟨ks.map kkS, ?_, ?_⟩
  · have := pm.map kkS
    rw [List.map_map] at this
    have e : (kkS ∘ Sum.inr) = (id : Str → Str) := rfl
    rw [e, List.map_id] at this
    exact this
  · have al : ∀ k ∈ ks, ∃ i, k = Sum.inr i := fun k m => by
      obtain ⟨i, _, e⟩ := List.mem_map.mp (pm.mem_iff.mp m)
      exact ⟨i, e.symm⟩
    clear pm
    induction ks generalizing vs with
    | nil =>
      cases vs with
      | nil => exact .nil
      | cons a b => cases kl
    | cons k ks ih =>
      cases vs with
      | nil => cases kl
      | cons v vs =>
        obtain ⟨i, rfl⟩ := al k (List.mem_cons_self ..)
        obtain ⟨tk, rfl⟩ : ∃ t, v = .str i t := Value.isStrOf_shape (ke 0 _ v rfl rfl).1
        exact .cons i tk (ih (Nat.succ.inj kl) (fun j k v e1 e2 => ke (j + 1) k v e1 e2) fun k m => al k (List.mem_cons_of_mem _ m))
end
section
variable {X : Cx}
theorem Inv.drawn {pins : List (Addr × Obj)} {σ : St} {H : Hp} {s : Shared} (I : Inv X pins σ H s) (d : Drawn) : Inv X pins σ H { s with drawn := d } :=
  ⟨I.ok, I.os, I.bare, I.base, I.loc, I.cell, I.free, I.freeC, I.pin, I.hok, I.len⟩
theorem call_setD : CallR X (.type "set") (fun xs H Q => ∃ a kvs, xs = [V.ref a] ∧ H a = some (.dK kvs) ∧ kvs.length < 100 ∧ ∀ p, H p = none → (kvs.map (·.1)).Nodup → Q (.ref p) (upd H p (setO X.prog X.w p (kvs.map (·.1))))) := by
  intro pins s σ H xs us Q I r h
  obtain ⟨a, kvs, rfl, ea, hl, q⟩ := h
  obtain ⟨u, rfl, rx⟩ := vals1 r
  cases rx
  obtain ⟨z, hd, vs, rel, dd⟩ := dk_of I.hok ea
  have ek : kvs.map (·.1) = vs.map (·.1) := by
    have : ∀ {kvs : List (Key × V)} {vs : List (Key × Value)}, KV kvs vs → kvs.map (·.1) = vs.map (·.1) := by
      intro kvs vs rel
      induction rel with
      | nil => rfl
      | cons r _ ih => rw [List.map_cons, List.map_cons, ih, r.1]
    exact this rel
  have nd : (vs.map (·.1)).Nodup := let ⟨_, _, _, _, _, _, _, _, hn⟩ := dd; hn
  refine call_set_dict dd hd (by rw [← rel.length]; exact hl) mix_scan fun h' kp z S => ?_
  have S' : SetD (mixKind X.prog X.w) h' s.heap.objs.size (kvs.map (·.1)) (ldW X.w) := by
    rw [ek]
    exact ⟨by rw [List.length_map]; exact S, nd⟩
  exact ⟨.ref s.heap.objs.size, _, I.laid (t' := s.toks) kp (Nat.le_refl _) (setO_ok S'), rfl, q _ (I.hok.fresh (Nat.le_refl _)) (by rw [ek]; exact nd)⟩
theorem op_orS : OpR X (binaryOp .BitOr) (fun x y H Q => ∃ a b D D2, x = .ref a ∧ y = .ref b ∧ H a = some (setO X.prog X.w a D) ∧ H b = some (setO X.prog X.w b D2) ∧ D.length + D2.length < 128 ∧ ∀ (p : Addr) (D' : List Key), H p = none → D'.Nodup → (∀ k, k ∈ D' ↔ k ∈ D ∨ k ∈ D2) → Q (.ref p) (upd H p (setO X.prog X.w p D'))) := by
  intro pins s σ H x y v u Q I rx ry h
  obtain ⟨a, b, D, D2, rfl, rfl, ea, eb, hl, q⟩ := h
  cases rx
  cases ry
  refine wp_or (setO_of I.hok ea) (setO_of I.hok eb) hl fun h' d' D' kp z S mm => ?_
  exact ⟨.ref s.heap.objs.size, _, (I.drawn d').laid (t' := s.toks) kp (Nat.le_refl _) (setO_ok S), rfl, q _ D' (I.hok.fresh (Nat.le_refl _)) S.nd mm⟩
theorem call_setL (hh : X.A.handled = none) : CallR X (.type "set") (fun xs H Q => ∃ (l : Addr) (ks : List Key), xs = [V.ref l] ∧ SqL X.K H l (ks.map kV) ∧ ks.length ≤ 100 ∧ ∀ (p : Addr) (D' : List Key), H p = none → D'.Nodup → D'.length ≤ ks.length → (∀ k, k ∈ D' ↔ k ∈ ks) → Q (.ref p) (upd H p (setO X.prog X.w p D'))) := by
  intro pins s σ H xs us Q I r h
  obtain ⟨l, ks, rfl, hq, kl, q⟩ := h
  obtain ⟨u, rfl, ru⟩ := vals1 r
  cases ru
  obtain ⟨its, rv, pl, hz⟩ := I.list hq
  have vl := rv.length
  rw [List.length_map] at vl
  refine call_set_list (knd := mixKind X.prog X.w) (ks := ks) pl.isList hh (by simpa using vl) (by simp; omega) (fun i v k e1 e2 => ?_) fun h' tk kp S => ?_
  · obtain ⟨w', h1, h2⟩ := Vals.get (i := i) rv (x := kV k) (by rw [List.getElem?_map, e2]; rfl)
    have : v = w' := by
      have e1 : its[i]? = some v := by simpa using e1
      rw [h1] at e1; exact (Option.some.inj e1).symm
    subst this
    exact ⟨kV_is h2, mix_scan k v (kV_is (P := X.prog) (w := X.w) h2)⟩
  · refine ⟨.ref s.heap.objs.size, _, I.laid (t' := tk) kp (Nat.le_refl _) (setO_ok S), rfl, q _ _ (I.hok.fresh (Nat.le_refl _)) S.nd ?_ fun k => ?_⟩
    · have := foldl_len (ks := ks) (D := []); simpa using this
    · rw [foldl_mem]; simp
theorem call_sortedS (hh : X.A.handled = none) : CallR X (.builtin "sorted") (fun xs H Q => ∃ a D, xs = [V.ref a] ∧ H a = some (setO X.prog X.w a D) ∧ D.length < 128 ∧ OneK D ∧ ∀ (p : Addr) (ks : List Key), H p = none → ks.Perm D → ks.Pairwise kle → Q (.ref p) (upd H p (.lst (ks.map kV)))) := by
  intro pins s σ H xs us Q I r h
  obtain ⟨a, D, rfl, ea, hl, one, q⟩ := h
  obtain ⟨u, rfl, rx⟩ := vals1 r
  cases rx
  have hd := setO_of I.hok ea
  refine Calls.call_function_entry kind_sorted plain_sorted entry_sorted (args_sorted1 (Value.ref a)) ?_
  refine wpAny_bind (wpAny_pure (wpAny_bind (wp_collect hh hd (by omega) fun h' tk d' vs kp its => ?_)))
  have vl : vs.length = D.length := by
    obtain ⟨ks, pm, kl, _⟩ := its
    rw [← kl, pm.length_eq]
  refine wpAny_bind (wpAny_newList ?_ (by rw [sizeLine_eq]; omega))
  have hoL : (h'.push (seqObj "list" vs.toArray 0)).get? h'.objs.size = some (seqObj "list" vs.toArray 0) := Heap.get?_push_size h' rfl
  have sz : (h'.push (seqObj "list" vs.toArray 0)).objs.size = h'.objs.size + 1 := size_push' _ _
  have I1 := (I.drawn d').kept (t' := tk) kp
  have kp' : ∀ out b o, h'.get? b = some o → (sortedHeap (h'.push (seqObj "list" vs.toArray 0)) h'.objs.size vs out).get? b = some o := fun out b o e => by
    have lt : b < h'.objs.size := Heap.lt_size e
    rw [sortedHeap_old (Nat.ne_of_lt lt) (Nat.lt_of_lt_of_le lt (by rw [sz]; exact Nat.le_succ _)), Heap.get?_push_of_some _ e]
  rcases one with ⟨ns, rfl⟩ | ⟨ts, rfl, tl⟩
  · obtain ⟨ns0, pm, ia⟩ := its_ints its
    refine wpAny_bind (wpAny_holding (wpAny_call_entry slot_list_sort ⟨_, hoL, rfl⟩ entry_list_sort (TM.list_sort128 hoL ia (by omega) fun out ns' a1 a2 a3 => ⟨.none, rfl, wpAny_pure ⟨_, rfl, ?_⟩⟩) (args_list_sort _)))
    obtain ⟨ee, he⟩ := sortedHeap_at (out := out) hoL
    have iv := ints_vals a1
    have hp := (a2.trans pm).length_eq
    have em : ns'.map V.int = (ns'.map Sum.inl).map kV := by rw [List.map_map]; rfl
    refine ⟨.ref h'.objs.size, _, I1.laid (t' := tk) (kp' out) (Nat.le_refl _) (show ObjOk X.prog X.w _ _ _ (.lst (ns'.map V.int)) from ⟨?_, out.toList, ee, iv, he⟩), rfl, ?_⟩
    · rw [List.length_map, sizeLine_eq]; rw [List.length_map] at vl hl; omega
    · rw [em]
      refine q _ _ (I1.hok.fresh (Nat.le_refl _)) ((a2.trans pm).map _) (List.pairwise_map.mpr ?_)
      exact a3
  · obtain ⟨ns0, pm, ia⟩ := its_strs its
    rw [List.length_map] at vl
    refine wpAny_bind (wpAny_holding (wpAny_call_entry slot_list_sort ⟨_, hoL, rfl⟩ entry_list_sort (list_sort_treeK strKind_oneLt hoL ia.keysOf (fun v₁ v₂ rest e => keyKind_strs (by rw [← e]; exact ia)) (by omega) fun st' hp hs => ⟨.none, rfl, wpAny_pure ⟨_, rfl, ?_⟩⟩) (args_list_sort _)))
    obtain ⟨ns', a1, a2, a3⟩ := sorted_out_str ia hp hs
    obtain ⟨ee, he⟩ := sortedHeap_at (out := (arrOf st').map (·.2)) hoL
    have iv := strs_vals a1
    have hpl := (a2.trans pm).length_eq
    have em : ns'.map V.str = (ns'.map Sum.inr).map kV := by rw [List.map_map]; rfl
    refine ⟨.ref h'.objs.size, _, I1.laid (t' := tk) (kp' _) (Nat.le_refl _) (show ObjOk X.prog X.w _ _ _ (.lst (ns'.map V.str)) from ⟨?_, ((arrOf st').map (·.2)).toList, ee, iv, he⟩), rfl, ?_⟩
    · rw [List.length_map, sizeLine_eq]; omega
    · rw [em]
      refine q _ _ (I1.hok.fresh (Nat.le_refl _)) ((a2.trans pm).map _) (List.pairwise_map.mpr ?_)
      exact sortedS_pwT a3
end
end L2

namespace ST
open PySem PyProof.Rows
section
variable {prog : Program} {w : World} {K : Type} [DecidableEq K] {knd : PySem.KeyKind prog w K} {A : Around} {E : Value → Shared → Prop} {s : Shared}
theorem call_dict_enum {e it l : Addr} {items : Array Value} {kf : Nat → K} {Q : Value → Shared → Prop} (inj : ∀ i j, kf i = kf j → i = j) (ik : ∀ (i : Nat) t, knd.is (kf i) (.int i t) = true) (hh : A.handled = none)
    (he : IsEnum s.heap e it 0 .none) (hit : s.heap.IsListIter it l 0) (hl : s.heap.IsList l items) (hne : e ≠ it) (nle : l ≠ e) (nli : l ≠ it) (hz : items.size ≤ sizeLine)
    (q : ∀ h' tk, h'.DictOf knd s.heap.objs.size (enK kf items items.size) → (∀ b o, b ≠ e → b ≠ it → s.heap.get? b = some o → h'.get? b = some o) → Q (.ref s.heap.objs.size) { s with heap := h', toks := tk }) :
    wpAny (model prog w) A (call (.type "dict") [.ref e]) Q E s := by
  refine callType_codes (Q₁ := fun obj s₁ => obj = .ref s.heap.objs.size ∧ s₁ = { s with heap := s.heap.push { cls := .type "dict", data := .dict #[] } }) F.kt_called_dict (F.kt_typeCall_dict_1 _) F.entry_dict_init (kt_code_dict_new _ ⟨rfl, rfl⟩) ?_
  rintro obj s₁ ⟨rfl, rfl⟩
  have hnew : (s.heap.push { cls := .type "dict", data := .dict #[] }).DictOf knd s.heap.objs.size [] := Heap.DictOf.new s.heap
  have he' : IsEnum (s.heap.push { cls := .type "dict", data := .dict #[] }) e it 0 .none := Heap.get?_push_of_some _ he
  have el : e < s.heap.objs.size := Heap.lt_size he
  have il : it < s.heap.objs.size := let ⟨o, h, _⟩ := hit; Heap.lt_size h
  have ll : l < s.heap.objs.size := let ⟨o, h, _⟩ := hl; Heap.lt_size h
  refine ⟨hnew.typeIs, F.args_dict_init_2 _ _, ?_⟩
  unfold Builtin.«dict.__init__»
  refine wpAny_bind ?_
  unfold Builtin.Dict.selfAndRest
  refine wpAny_bind (wpAny_notOrdered_dict hnew.typeIs ?_)
  show wpAny _ _ (pure (s.heap.objs.size, [Value.ref e])) _ _ _
  refine wpAny_pure ?_
  show wpAny _ _ (Builtin.Dict.updateFrom "dict.__init__" s.heap.objs.size (.ref e) [] .none) _ _ _
  unfold Builtin.Dict.updateFrom
  have ty : Shared.TypeIs { s with heap := s.heap.push { cls := .type "dict", data := .dict #[] } } (.ref e) "enumerate" := ⟨_, he', rfl⟩
  refine wpAny_bind (wpAny_typeOf ty ?_)
  rw [if_pos (by decide)]
  refine wpAny_bind (enum_no_keys he' hh fun h1 tk1 kp1 => ?_)
  refine wpAny_ite_split (fun _ => ?_) (fun z => absurd rfl z)
  refine wpAny_bind (wpAny_rule ?_)
  have he1 : IsEnum h1 e it 0 .none := kp1 _ _ he'
  refine wpAny_bind (wpAny_pyIter_enum (s := { heap := h1, gens := s.gens, drawn := s.drawn, toks := tk1, os := s.os }) he1 ?_)
  refine wpAny_pure ⟨plainId_quiet plain_dul _, ?_⟩
  have kp : ∀ b o, s.heap.get? b = some o → h1.get? b = some o := fun b o h => kp1 b o (Heap.get?_push_of_some _ h)
  refine dict_loop (knd := knd) inj ik (show A.in1.handled = none from hh) (Nat.ne_of_gt el) (Nat.ne_of_gt il) hne nle nli (Nat.ne_of_lt ll) hz items.size 0 { heap := h1, gens := s.gens, drawn := s.drawn, toks := tk1, os := s.os } (by omega) (Nat.zero_le _) (.inl ⟨.none, he1⟩) (hit.at fun o h => kp it o h) (hl.at fun o h => kp l o h) ?_ fun h' tk hd k => ?_
  · obtain ⟨o, es, ep, h, r⟩ := hnew
    exact ⟨o, es, ep, kp1 _ _ h, r⟩
  · refine ⟨rfl, q h' tk hd fun b o n1 n2 h => k b o (Nat.ne_of_lt (Heap.lt_size h)) n1 n2 (kp b o h)⟩
end
end ST

namespace L2
open PySem PySem.Spec PyProof.Rows ST
section
variable {X : Cx} {l : Expr} {tl : TE} {p pos : Pos}
def enD (xs : List V) : List (Key × V) := xs.zipIdx.map fun q => (.inl (q.2 : Int), q.1)
def tDictEn (K : PySem.W.Frag) (tl : TE) : TE := fun σ H Q => tl σ H fun x H1 => ∃ a xs, x = .ref a ∧ SqL K H1 a xs ∧ ∀ p, H1 p = none → Q (.ref p) (upd H1 p (.dK (enD xs)))
theorem kv_en {xs : List V} {its : List Value} (r : Vals xs its) : ∀ n, KV ((xs.zipIdx n).map fun q => ((Sum.inl (q.2 : Int) : Key), q.1)) ((its.zipIdx n).map fun q => ((Sum.inl (q.2 : Int) : Key), q.1)) := by
  induction r with
  | nil => intro n; exact .nil
  | cons h _ ih => intro n; rw [List.zipIdx_cons, List.zipIdx_cons, List.map_cons, List.map_cons]; exact .cons ⟨rfl, h⟩ (ih _)
theorem pe_dict_enum {p2 pos2 : Pos} (hc : X.calm = true) (hg1 : Gl X "dict") (hm1 : X.mg "dict" = none) (hg : Gl X "enumerate") (hm : X.mg "enumerate" = none) (hl : PE X l tl) (hs : starEach [l] X.env = [(false, eval l X.env)] := by rfl)
    (hs2 : starEach [.Call (.Name "enumerate" p2) [l] [] pos2] X.env = [(false, eval (.Call (.Name "enumerate" p2) [l] [] pos2) X.env)] := by rfl) :
    PE X (.Call (.Name "dict" p) [.Call (.Name "enumerate" p2) [l] [] pos2] [] pos) (tDictEn X.K tl) := by
  intro pins s σ H Q I h
  refine Call_ (ld_blt I hg1 hm1 PyProof.Rows.Boot.«dict» (PyProof.Rows.callWith_type1 ?_ hs2 rfl))
  rw [hs2]
  show wpAny _ _ (spliced ((false, eval (.Call (.Name "enumerate" p2) [l] [] pos2) X.env) :: backTo pos [])) _ _ s
  refine Calls.spliced_cons (?_ : wpAny (model X.prog X.w) X.A (eval (.Call (.Name "enumerate" p2) [l] [] pos2) X.env) _ X.xe s)
  refine Call_ (ld_blt I hg hm PyProof.Rows.Boot.«enumerate» (PyProof.Rows.callWith_type1 (thn (pa_cons hl pa_nil hs pos2 pins s σ H (fun vs H1 => match vs with | [x] => ∃ a xs, x = .ref a ∧ SqL X.K H1 a xs ∧ ∀ t, H1 t = none → Q (.ref t) (upd H1 t (.dK (enD xs))) | _ => False) I h) fun us s1 ⟨vs, H1, I1, r1, q1⟩ => ?_) hs rfl))
  match vs, q1 with
  | [x], q1 =>
    obtain ⟨a, xs, rfl, hq, q⟩ := q1
    obtain ⟨u, rfl, ru⟩ := vals1 r1
    cases ru
    obtain ⟨its, rv, pl, hz⟩ := I1.list hq
    have vl := rv.length
    have al : a < s1.heap.objs.size := by obtain ⟨_, e, _⟩ := id pl.isList; exact Heap.lt_size e
    refine call_enumerate_list pl.isList fun h1 he hit z1 kp1 => ?_
    refine Calls.spliced_nil ?_
    have sz : s1.heap.objs.size + 1 < h1.objs.size := by rw [z1]; omega
    refine call_dict_enum (knd := mixKind X.prog X.w) (kf := fun i => (Sum.inl (i : Int) : Key)) (items := its.toArray) (fun i j e => by have := Sum.inl.inj e; omega) (fun i t => ?_) (I1.ok.hd hc) he hit (pl.isList.at fun o h => kp1 a o h) (Nat.ne_of_gt (Nat.lt_succ_self _)) (Nat.ne_of_lt (Nat.lt_succ_of_lt al)) (Nat.ne_of_lt al) (by simp; omega) fun h' tk hd kp => ?_
    · show Value.isInt (i : Int) (.int i t) = true
      simp [Value.isInt]
    · have I2 := I1.kept (t' := tk) (h' := h') fun b o e => kp b o (Nat.ne_of_lt (Nat.lt_succ_of_lt (Heap.lt_size e))) (Nat.ne_of_lt (Heap.lt_size e)) (kp1 b o e)
      have ek : enK (fun i => (Sum.inl (i : Int) : Key)) its.toArray its.toArray.size = its.zipIdx.map fun q => ((Sum.inl (q.2 : Int) : Key), q.1) := by
        unfold enK
        rw [List.take_of_length_le (by simp)]
      rw [ek] at hd
      have big : (h1.objs.size == sysModules) = false := beq_eq_false_iff_ne.mpr (Ne.symm (Nat.ne_of_lt (Nat.lt_trans I1.big (Nat.lt_trans (Nat.lt_succ_self _) sz))))
      refine ⟨.ref h1.objs.size, _, I1.laid (t' := tk) (fun b o e => kp b o (Nat.ne_of_lt (Nat.lt_succ_of_lt (Heap.lt_size e))) (Nat.ne_of_lt (Heap.lt_size e)) (kp1 b o e)) (by rw [z1]; exact Nat.le_trans (Nat.le_succ _) (Nat.le_succ _)) (dk_new (kvs := enD xs) ?_ big (kv_en rv 0) hd), rfl, q _ (I1.hok.fresh (by rw [z1]; exact Nat.le_trans (Nat.le_succ _) (Nat.le_succ _)))⟩
      unfold enD
      rw [List.length_map, List.length_zipIdx]
      exact hz
theorem strs_of : ∀ {ts : List Str} {its : List Value}, Vals (ts.map V.str) its → StrsAre its ts
  | [], _, .nil => .nil
  | x :: ts, _, .cons ⟨t, e⟩ r => by subst e; exact .cons x t (strs_of r)
theorem call_sortedLS : CallR X (.builtin "sorted") (fun xs H Q => ∃ (l : Addr) (ts : List Str), xs = [V.ref l] ∧ SqL X.K H l (ts.map V.str) ∧ ts.length < 64 ∧ ∀ (p : Addr) (ns : List Str), H p = none → ns.Perm ts → ns.Pairwise (fun x y => ¬ y.cps.toList < x.cps.toList) → Q (.ref p) (upd H p (.lst (ns.map V.str)))) := by
  intro pins s σ H xs us Q I r h
  obtain ⟨l, ts, rfl, hq, kl, q⟩ := h
  obtain ⟨u, rfl, ru⟩ := vals1 r
  cases ru
  obtain ⟨its, rv, pl, hz⟩ := I.list hq
  have ia := strs_of rv
  have vl := rv.length
  rw [List.length_map] at vl
  refine sorted_strs pl.isList ia (by omega) fun out ns' a1 a2 a3 => ?_
  obtain ⟨ee, he⟩ := sortedAll_at s.heap its out
  have iv := strs_vals a1
  have hp := a2.length_eq
  refine ⟨.ref (s.heap.objs.size + 1), _, I.laid (t' := s.toks) (fun _ _ => sortedAll_old) (Nat.le_succ _) (show ObjOk X.prog X.w _ _ _ (.lst (ns'.map V.str)) from ⟨?_, out.toList, ee, iv, he⟩), rfl, q _ ns' (I.hok.fresh (Nat.le_succ _)) a2 (sortedS_pwT a3)⟩
  rw [List.length_map, sizeLine_eq]; omega
def tRange1 (tl : TE) : TE := fun σ H Q => tl σ H fun x H1 => ∃ i : Int, x = .int i ∧ ∀ p, H1 p = none → Q (.ref p) (upd H1 p (.rng 0 i))
theorem pe_range1 (hg : Gl X "range") (hm : X.mg "range" = none) (hl : PE X l tl) (hs : starEach [l] X.env = [(false, eval l X.env)] := by rfl) : PE X (.Call (.Name "range" p) [l] [] pos) (tRange1 tl) := by
  intro pins s σ H Q I h
  refine Call_ (ld_blt I hg hm boot_range (PyProof.Rows.callWith_type1 (thn (pa_cons hl pa_nil hs pos pins s σ H (fun vs H1 => match vs with | [x] => ∃ i : Int, x = .int i ∧ ∀ p, H1 p = none → Q (.ref p) (upd H1 p (.rng 0 i)) | _ => False) I h) fun us s1 ⟨vs, H1, I1, r1, q1⟩ => ?_) hs rfl))
  match vs, q1 with
  | [x], q1 =>
    obtain ⟨i, rfl, q⟩ := q1
    obtain ⟨u, rfl, ru⟩ := vals1 r1
    obtain ⟨t, rfl⟩ := ru
    refine call_range_1 ?_
    have I2 := I1.laid (t' := s1.toks + 1 + 1) (a := s1.heap.objs.size) (o := .rng 0 i) (h' := s1.heap.push { cls := .type "range", data := .fields #[.int 0 s1.toks, .int i t, .int 1 (s1.toks + 1)] }) (fun b o e => Heap.get?_push_of_some _ e) (Nat.le_refl _) ⟨_, t, _, Heap.get?_push_size _ rfl⟩
    exact ⟨.ref s1.heap.objs.size, _, I2, rfl, q _ (I1.hok.fresh (Nat.le_refl _))⟩
end
end L2

local macro_rules | `(tactic| walk_at "lk") => `(tactic| first | exact L2.lk_eq | (apply L2.lk_next; (first | done | decide +kernel); walk_at "lk") | exact rfl)
local macro_rules | `(tactic| walk_at "hp") => `(tactic| first | assumption | exact L2.upd_same | (apply L2.up_old; (first | done | assumption); walk_at "hp") | (apply L2.up_ne; (first | done | assumption); walk_at "hp"))
local macro_rules | `(tactic| walk_at "ty") => `(tactic| first | assumption | exact L2.TyE.of (L2.TyOf.int _) | exact L2.TyE.of (L2.TyOf.bl _) | exact L2.TyE.of L2.TyOf.non | exact L2.TyE.of (L2.TyOf.str _) | (apply L2.TyE.of; apply L2.TyOf.lst; walk_at "hp") | (apply L2.TyE.of; apply L2.TyOf.tup; walk_at "hp") | (apply L2.TyE.of; apply L2.TyOf.dK; walk_at "hp"))
local macro_rules | `(tactic| walk_at "cl") => `(tactic| first | ((with_reducible show L2.Cls _ _); walk_at "tc") | ((with_reducible show L2.NoAttr _ _ _); walk_at "tn") | ((with_reducible show PySem.W.kitOne _ _ _ = _); walk_at "tk") | (with_reducible assumption) | (with_reducible show (_ : Int) ≤ _; omega) | (with_reducible show (_ : Int) < _; omega) | (with_reducible show (_ : Nat) ≤ _; omega) | (with_reducible show (_ : Nat) < _; omega) | exact rfl | assumption | (with_reducible apply L2.SqL.of; walk_at "hp") | (with_reducible apply L2.SqT.of; walk_at "hp") | walk_at "hp" | ((with_reducible apply Or.inl); assumption) | ((with_reducible apply Or.inr); assumption) | (with_reducible apply Or.inl; with_reducible apply L2.SqL.of; walk_at "hp") | (with_reducible apply Or.inr; with_reducible apply L2.SqT.of; walk_at "hp") | (apply Or.inl; refine And.intro rfl ?_; apply Exists.intro; apply L2.SqL.of; walk_at "hp") | walk_at "lk" | walk_at "ty" | exact L2.kit_self _ _ | exact L2.kit_ib _ | exact L2.one_line | exact L2.small_line (Nat.le_of_ble_eq_true rfl) | (show List.length _ < _; exact Nat.le_of_ble_eq_true rfl) | omega | (apply Exists.intro; with_reducible apply L2.SqL.of; walk_at "hp") | (apply Exists.intro; with_reducible apply L2.SqT.of; walk_at "hp") | (apply Or.inr; refine ⟨?_, ?_⟩ <;> omega) | (apply Or.inl; refine ⟨?_, ?_⟩ <;> omega) | decide | (show (0 : Int) < _; first | decide | omega | assumption) | (refine ⟨?_, ?_⟩ <;> decide) | (refine ⟨?_, ?_, ?_⟩ <;> decide) )
local macro_rules | `(tactic| walk_at "e1") => `(tactic| ((fail_if_success (refine L2.exW ?_ ?_)); (fail_if_success (refine L2.exW2 ?_ ?_)); (fail_if_success (refine L2.exN ?_ ?_)); (fail_if_success (refine L2.exD ?_ ?_)); apply Exists.intro))
local macro_rules | `(tactic| walk_at "eg") => `(tactic| fail_if_success (any_goals (with_reducible first | show L2.Iv0 | show L2.Iv1 | show L2.Iv2 | show PySem.PyData)))
local macro_rules | `(tactic| walk_at "ex") => `(tactic| first | (apply L2.ex9; walk_at "eg") | (apply L2.ex6; walk_at "eg") | (apply L2.ex4; walk_at "eg") | (apply L2.ex3; walk_at "eg") | (apply L2.ex2; walk_at "eg") | walk_at "e1")
local macro_rules | `(tactic| walk_at "sq") => `(tactic| (refine L2.sq ?_; intro _ _))
local macro_rules | `(tactic| walk_at "sr") => `(tactic| repeat walk_at "sq")
local macro_rules | `(tactic| walk_at "i1") => `(tactic| ((try walk_at "sq"); first | (apply And.intro; (walk_at "cl")) | walk_at "e1"))
local macro_rules | `(tactic| walk_at "i3") => `(tactic| first | walk_at "sq" | (apply And.intro; (walk_at "cl")) | walk_at "e1")
local macro_rules | `(tactic| walk_at "i2") => `(tactic| first | walk_at "sq" | (apply And.intro; (walk_at "cl")) | walk_at "ex")
local macro_rules | `(tactic| walk_at "go") => `(tactic| repeat walk_at "i2")
local macro_rules | `(tactic| walk_at "l1") => `(tactic| first | (refine L2.lc ?_; exact rfl) | (refine L2.o9 ?_; intro _ _ _ _ _ _ _ _ _; walk_at "l1") | (refine L2.o6 ?_; intro _ _ _ _ _ _; walk_at "l1") | (refine L2.o4 ?_; intro _ _ _ _; walk_at "l1") | (refine L2.o2 ?_; intro _ _; walk_at "l1") | (refine L2.o1 ?_; intro _; walk_at "l1") | exact fun e => congrArg List.length e)
local macro_rules | `(tactic| walk_at "l0") => `(tactic| (intro _ _ _ _; walk_at "l1"))
set_option hygiene false
local macro_rules | `(tactic| walk_at "tc") => `(tactic| first | with_reducible assumption)
local macro_rules | `(tactic| walk_at "tn") => `(tactic| first | with_reducible assumption)
local macro_rules | `(tactic| walk_at "tk") => `(tactic| first | with_reducible assumption)
set_option hygiene true
seal L2.tSeq L2.PA L2.PE L2.PS L2.PSs L2.PT L2.PG L2.PI
namespace K47
open PySem L2
abbrev Sc (n : List Str) (k : Nat) (s : Stmt) : Prop := FnScope n (n.take k) (defScope s)
local macro_rules | `(tactic| walk_at "sc") => `(tactic| exact ⟨rfl, rfl, rfl, by decide +kernel, rfl, by decide +kernel, by decide +kernel⟩)
def top (i : Nat) : Stmt := PySem.Challenge.pw_leafframe_k47_tallied.main.body.getD i (.Pass ⟨0, 0, 0, 0⟩)
abbrev s_law : Stmt := top 16
theorem sc_named_by : Sc ["rows", "kind", "named", "row", "leaf"] 2 (top 1) := by walk_at "sc"
theorem sc_unlike_counts : Sc ["what", "named", "counts", "found", "key"] 3 (top 2) := by walk_at "sc"
theorem sc_tallied : Sc ["rows", "frames", "slots", "shares", "uses_of", "name", "many", "uses", "found"] 4 (top 3) := by walk_at "sc"
theorem sc__law_cell_at : Sc ["_law_script", "_law_k"] 2 (top 5) := by walk_at "sc"
theorem sc__law_whole : Sc ["_law_found"] 1 (top 6) := by walk_at "sc"
theorem sc__law_drawn : Sc ["_law_cell", "_law_by", "_law_prime", "_law_many_here"] 4 (top 7) := by walk_at "sc"
theorem sc__law_names : Sc ["_law_cell", "_law_letters", "_law_size", "_law_at", "_law_base", "_law_names_here", "_law_k", "_law_name", "_law_j", "_law_turn"] 1 (top 8) := by walk_at "sc"
theorem sc__law_row : Sc ["_law_cell", "_law_k", "_law_names_here", "_law_number", "_law_rights", "_law_way", "_law_row_here", "_law_name"] 3 (top 9) := by walk_at "sc"
theorem sc__law_many : Sc ["_law_rows", "_law_kind", "_law_one"] 3 (top 10) := by walk_at "sc"
theorem sc__law_counts : Sc ["_law_rows", "_law_kind", "_law_cell", "_law_counts_here", "_law_k", "_law_at"] 3 (top 11) := by walk_at "sc"
theorem sc__law_uses : Sc ["_law_rows", "_law_names_here", "_law_cell", "_law_shares", "_law_k", "_law_name", "_law_uses_here", "_law_way"] 3 (top 12) := by walk_at "sc"
theorem sc__law_numbers : Sc ["_law_rows", "_law_word", "_law_kind", "_law_counts_here", "_law_due", "_law_far", "_law_number", "_law_count", "_law_named"] 4 (top 13) := by walk_at "sc"
theorem sc__law_names_due : Sc ["_law_rows", "_law_shares", "_law_names_here", "_law_due", "_law_name", "_law_uses_here", "_law_named"] 3 (top 14) := by walk_at "sc"
theorem sc__law_same : Sc ["_law_found", "_law_due", "_law_k"] 2 (top 15) := by walk_at "sc"
theorem sc_law : Sc ["_law_script", "_law_one", "_law_other", "_law_names_here", "_law_cells", "_law_rows", "_law_frames", "_law_slots", "_law_shares", "_law_due", "_law_handed", "_law_found"] 1 s_law := by walk_at "sc"
structure Adr where
  mk ::
structure TxA (K : PySem.W.Frag) (mg : Str → Option Value) (a : Adr) : Prop where
  b_bool : mg "bool" = none
  b_dict : mg "dict" = none
  b_enumerate : mg "enumerate" = none
  b_int : mg "int" = none
  b_isinstance : mg "isinstance" = none
  b_len : mg "len" = none
  b_list : mg "list" = none
  b_max : mg "max" = none
  b_range : mg "range" = none
  b_set : mg "set" = none
  b_sorted : mg "sorted" = none
  b_sum : mg "sum" = none
  b_tuple : mg "tuple" = none
structure Txt (K : PySem.W.Frag) (mg : Str → Option Value) (a : Adr) : Prop extends TxA K mg a where
structure Bx (p : Prop) : Prop where
  o : p
theorem newO {H H' : Hp} {q : Addr} {o : HO} (hq : H q = none) (hh : upd H q o = H') : Same H H' ∧ H' q = some o := by subst hh; exact ⟨same_upd hq, upd_same⟩
def StrOk (x : Str) : Prop := PyData.canLay0 (.str x) = true
inductive Lf where
  | fr (r : Int) | nu (o : Bool) (r n : Int) | na (r : Int) (x : Str) (m : Int)
def Lf.row : Lf → List V
  | .fr r => [.str "fresh", .int r] | .nu o r n => [.str (if o then "out" else "held"), .int r, .int n] | .na r x m => [.str "named", .int r, .str x, .int m]
def Lf.kd : Lf → Str
  | .fr _ => "fresh" | .nu o _ _ => if o then "out" else "held" | .na .. => "named"
def Lf.ky : Lf → Option Key
  | .fr _ => none | .nu _ _ n => some (.inl n) | .na _ x _ => some (.inr x)
theorem Lf.at0 (f : Lf) : atI f.row 0 = some (.str f.kd) := by cases f <;> rfl
theorem Lf.at2 {f : Lf} {k : Key} (h : f.ky = some k) : atI f.row 2 = some (kV k) := by
  cases f with
  | fr r => cases h
  | nu o r n => cases h; rfl
  | na r x m => cases h; rfl
theorem Lf.some {f : Lf} (h : f.kd ≠ "fresh") : ∃ k, f.ky = some k := by
  cases f with
  | fr r => exact absurd rfl h
  | nu o r n => exact ⟨_, rfl⟩
  | na r x m => exact ⟨_, rfl⟩
def RowO (H : Hp) (q : Addr) (f : Lf) : Prop := ∃ (w : Str) (g : Key) (k : Int) (l : Addr), H q = some (.tup [.str w, kV g, .int k, .ref l]) ∧ H l = some (.tup f.row) ∧ StrOk w ∧ ∀ x, g = .inr x → StrOk x
def RowsA (H : Hp) (qs : List Addr) (fs : List Lf) : Prop := qs.length = fs.length ∧ ∀ (i : Nat) q f, qs[i]? = some q → fs[i]? = some f → RowO H q f
theorem RowO.same {H H' : Hp} {q : Addr} {f : Lf} (s : Same H H') (h : RowO H q f) : RowO H' q f := let ⟨w, g, k, l, h1, h2, h3⟩ := h; ⟨w, g, k, l, s _ _ h1, s _ _ h2, h3⟩
theorem RowsA.same {H H' : Hp} {qs : List Addr} {fs : List Lf} (s : Same H H') (h : RowsA H qs fs) : RowsA H' qs fs := ⟨h.1, fun i q f e1 e2 => (h.2 i q f e1 e2).same s⟩
theorem RowsA.at {H : Hp} {qs : List Addr} {fs : List Lf} (h : RowsA H qs fs) {i : Nat} {x : V} (e : (qs.map V.ref)[i]? = some x) : ∃ q f, x = .ref q ∧ fs[i]? = some f ∧ RowO H q f := by
  rw [List.getElem?_map] at e
  cases eq : qs[i]? with
  | none => rw [eq] at e; cases e
  | some q =>
    rw [eq] at e
    cases e
    have il : i < fs.length := by rw [← h.1]; exact (List.getElem?_eq_some_iff.mp eq).1
    exact ⟨q, fs[i], rfl, List.getElem?_eq_getElem il, h.2 i q _ eq (List.getElem?_eq_getElem il)⟩
def nms (kd : Str) (k : Key) (f : Lf) : Bool := decide (f.kd = kd) && decide (f.ky = some k)
def cnt (fs : List Lf) (kd : Str) (k : Key) : Int := ((fs.filter (nms kd k)).length : Int)
theorem cnt_snoc (fs : List Lf) (f : Lf) (kd : Str) (k : Key) : cnt (fs ++ [f]) kd k = cnt fs kd k + (if nms kd k f = true then 1 else 0) := by
  unfold cnt
  rw [List.filter_append, List.length_append, List.filter_cons]
  split <;> simp
theorem cnt_yes {fs : List Lf} {f : Lf} {kd : Str} {k : Key} (h : nms kd k f = true) : cnt (fs ++ [f]) kd k = cnt fs kd k + 1 := by rw [cnt_snoc, if_pos h]
theorem cnt_no {fs : List Lf} {f : Lf} {kd : Str} {k : Key} (h : nms kd k f = false) : cnt (fs ++ [f]) kd k = cnt fs kd k := by rw [cnt_snoc, h]; exact Int.add_zero _
theorem cnt_0 (fs : List Lf) (kd : Str) (k : Key) : 0 ≤ cnt fs kd k := by unfold cnt; omega
structure Nmd (kvs : List (Key × V)) (fs : List Lf) (kd : Str) : Prop where
  val : ∀ k, valV kvs k = if cnt fs kd k = 0 then none else some (.int (cnt fs kd k))
  len : kvs.length ≤ fs.length
theorem Nmd.nil (kd : Str) : Nmd [] [] kd := ⟨fun k => rfl, Nat.le_refl _⟩
theorem Nmd.no {kvs : List (Key × V)} {fs : List Lf} {kd : Str} (h : Nmd kvs fs kd) {f : Lf} (n : f.kd ≠ kd) : Nmd kvs (fs ++ [f]) kd := by
  refine ⟨fun k => ?_, by rw [List.length_append]; exact Nat.le_trans h.len (Nat.le_add_right _ _)⟩
  have : nms kd k f = false := by unfold nms; rw [decide_eq_false n]; rfl
  rw [cnt_no this]; exact h.val k
theorem Nmd.put {kvs : List (Key × V)} {fs : List Lf} {kd : Str} (h : Nmd kvs fs kd) {f : Lf} {k : Key} (e : f.kd = kd) (ek : f.ky = some k) : Nmd (putK kvs k (.int (cnt fs kd k + 1))) (fs ++ [f]) kd := by
  refine ⟨fun j => ?_, ?_⟩
  · rw [valV_put]
    by_cases c : j = k
    · subst c
      have : nms kd j f = true := by unfold nms; rw [decide_eq_true e, decide_eq_true ek]; rfl
      have := cnt_0 fs kd j
      rw [if_pos rfl, cnt_yes ‹nms kd j f = true›, if_neg (by omega)]
    · have : nms kd j f = false := by
        unfold nms
        rw [ek, decide_eq_false (fun z : some k = some j => c (Option.some.inj z).symm), Bool.and_false]
      rw [if_neg c, cnt_no this]; exact h.val j
  · have := length_putK kvs k (.int (cnt fs kd k + 1))
    have := h.len
    rw [List.length_append, List.length_singleton]
    omega
theorem Nmd.get {kvs : List (Key × V)} {fs : List Lf} {kd : Str} (h : Nmd kvs fs kd) (k : Key) : (valV kvs k).getD (.int 0) = .int (cnt fs kd k) := by
  rw [h.val]
  by_cases c : cnt fs kd k = 0
  · rw [if_pos c, c]; rfl
  · rw [if_neg c]; rfl
def spNmd : Sp := fun vs H Q _ => ∃ (p : Addr) (kd : Str) (qs : List Addr) (fs : List Lf), vs = [.ref p, .str kd] ∧ H p = some (.lst (qs.map V.ref)) ∧ RowsA H qs fs ∧ fs.length < 70 ∧ kd ≠ "fresh" ∧ ∀ (q : Addr) (kvs : List (Key × V)) (H' : Hp), Same H H' → H q = none → H' q = some (.dK kvs) → Nmd kvs fs kd → Q (.ref q) H'
section
variable (P : Program) {w : World} {K : PySem.W.Frag} {mg : Str → Option Value} (base : Heap) {a : Adr} {dvs : List V}
theorem ok_named_by (R : RawF K mg "named_by" (top 1) ["rows", "kind"] dvs) (T : Txt K mg a) :
    HasFn P w K mg base 1 "named_by" ["rows", "kind"] (spNmd) dvs := by
  refine R.ok sc_named_by (by walk_at "l0") ?_
  intro f cdv A outer s H vs Q E hr
  rintro ⟨p, kd, qs, fs, rfl, hp, ra, fl, nf, k⟩
  refine L2.xl ?_
  intro X _ _
  refine ⟨_, (pss_cons (ps_sl 2 sc_named_by.nd pe_dnewK)
      (pss_cons (ps_for own_def rfl (pi_list (pv 0)) (pg_name (i := 3) sc_named_by.nd rfl (by first | exact Or.inl rfl | exact Or.inr rfl))
      (pss_cons (ps_sl 4 sc_named_by.nd (pe_x ix_tup (pv 3) pe_int))
      (pss_one (ps_if (pt_cmpR op_eq (pe_x ix_tup (pv 4) pe_int) (pv 1) (nomark _)) (pss_one (ps_dput hr.u1 (pv 2) (pe_x ix_tup (pv 4) pe_int) (pe_op op_add (pe_dget2 hr.u1 (pv 2) (pe_x ix_tup (pv 4) pe_int) pe_int ⟨rfl, rfl, rfl, rfl⟩) pe_int) rfl)) pss_nil))))
      (pss_one (ps_ret (pv 2))))), ?_⟩
  walk_at "go"
  intro d hd
  generalize hh : upd _ d _ = H1
  obtain ⟨s1, e1⟩ := newO hd hh
  clear hh
  have p1 := s1 _ _ hp
  walk_at "go"
  refine for_list (xs := qs.map V.ref) (fun i σ H' => Bx (∃ (v3 v4 : Option V) (kvs : List (Key × V)), σ = [some (.ref p), some (.str kd), some (.ref d), v3, v4] ∧ H' d = some (.dK kvs) ∧ Nmd kvs (fs.take i) kd ∧ Same H H')) ⟨_, _, _, rfl, e1, Nmd.nil kd, s1⟩ (fun i σ H' _ y => ?_) ?_ ?_
  · obtain ⟨v3, v4, kvs, rfl, hd, nm, sm⟩ := y
    exact SqL.of (sm _ _ hp)
  · rintro i x σ H2 hx ⟨v3, v4, kvs, rfl, hd2, nm, sm⟩
    obtain ⟨q, f, rfl, ef, ro⟩ := ra.at hx
    obtain ⟨w, g, kk, l, q1, q2, _⟩ := ro.same sm
    have a3 : atI [V.str w, kV g, .int kk, .ref l] 3 = some (.ref l) := rfl
    have a0 := f.at0
    have et : fs.take (i + 1) = fs.take i ++ [f] := by
      obtain ⟨il, rfl⟩ := List.getElem?_eq_some_iff.mp ef
      exact List.take_succ_eq_append_getElem il
    walk_at "go"
    refine iteD (fun c => ?_) (fun c => ?_)
    · have c : f.kd = kd := V.str.inj c
      obtain ⟨ky, ek⟩ := Lf.some (f := f) (by rw [c]; exact nf)
      have a2 := Lf.at2 ek
      have ng := nm.get ky
      have il := (List.getElem?_eq_some_iff.mp ef).1
      have kz : kvs.length < sizeLine := by have := nm.len; rw [List.length_take] at this; rw [sizeLine_eq]; omega
      have isd : IsD H2 d := .inl ⟨kvs, Rd.of hd2⟩
      have dg : DGet H2 d (kV ky) (valV kvs ky) := .inl ⟨kvs, ky, .inl hd2, rfl, rfl⟩
      have dp : DPut H2 d (kV ky) (.int (cnt (fs.take i) kd ky + 1)) (upd H2 d (.dK (putK kvs ky (.int (cnt (fs.take i) kd ky + 1))))) := .inl ⟨kvs, ky, hd2, rfl, kz, rfl⟩
      walk_at "go"
      refine ⟨_, _, _, rfl, upd_same, ?_, fun b u e => ?_⟩
      · rw [et]; exact nm.put c ek
      · rw [upd_ne (ne_of_none e hd)]; exact sm _ _ e
    · walk_at "go"
      refine ⟨_, _, kvs, rfl, hd2, ?_, sm⟩
      rw [et]
      exact nm.no fun z => c (by rw [z])
  · rintro σ H2 ⟨v3, v4, kvs, rfl, hd2, nm, sm⟩
    walk_at "go"
    rw [List.length_map, ra.1, List.take_length] at nm
    exact k d kvs H2 sm hd hd2 nm
end
end K47

set_option hygiene false
set_option hygiene true
namespace K47
open PySem L2
abbrev Un4 := Str × Key × Int × Int
def UnO (H : Hp) (q : Addr) (u : Un4) : Prop := H q = some (.tup [.str u.1, kV u.2.1, .int u.2.2.1, .int u.2.2.2])
def UL (H : Hp) (p : Addr) (us : List Un4) : Prop := ∃ qs : List Addr, H p = some (.lst (qs.map V.ref)) ∧ qs.length = us.length ∧ ∀ (i : Nat) q u, qs[i]? = some q → us[i]? = some u → UnO H q u
theorem UL.same {H H' : Hp} {p : Addr} {us : List Un4} (s : Same H H') (h : UL H p us) : UL H' p us := let ⟨qs, h1, h2, h3⟩ := h; ⟨qs, s _ _ h1, h2, fun i q u e1 e2 => s _ _ (h3 i q u e1 e2)⟩
theorem UL.nil {H : Hp} {p : Addr} (h : H p = some (.lst [])) : UL H p [] := ⟨[], h, rfl, fun i q u e1 e2 => by cases e1⟩
def vI (kvs : List (Key × V)) (k : Key) : Int := match valV kvs k with | some (.int n) => n | _ => 0
def IntV (kvs : List (Key × V)) : Prop := ∀ k v, valV kvs k = some v → ∃ n, v = .int n
theorem IntV.get {kvs : List (Key × V)} (h : IntV kvs) (k : Key) : (valV kvs k).getD (.int 0) = .int (vI kvs k) := by
  unfold vI
  cases e : valV kvs k with
  | none => rfl
  | some v => obtain ⟨n, rfl⟩ := h k v e; rfl
def unl (w : Str) (f g : Key → Int) (ks : List Key) : List Un4 := (ks.filter fun k => decide (f k ≠ g k)).map fun k => (w, k, f k, g k)
theorem unl_yes {w : Str} {f g : Key → Int} {ks : List Key} {k : Key} (h : f k ≠ g k) : unl w f g (ks ++ [k]) = unl w f g ks ++ [(w, k, f k, g k)] := by
  unfold unl
  rw [List.filter_append, List.map_append, List.filter_cons, if_pos (decide_eq_true h)]; rfl
theorem unl_no {w : Str} {f g : Key → Int} {ks : List Key} {k : Key} (h : f k = g k) : unl w f g (ks ++ [k]) = unl w f g ks := by
  unfold unl
  rw [List.filter_append, List.filter_cons, if_neg (by rw [decide_eq_false (fun z => z h)]; decide)]; simp
theorem unl_len {w : Str} {f g : Key → Int} {ks : List Key} : (unl w f g ks).length ≤ ks.length := by
  unfold unl
  rw [List.length_map]; exact List.length_filter_le _ _
theorem UL.snoc {H : Hp} {p t : Addr} {us : List Un4} {u : Un4} {qs : List Addr} (n1 : qs.length = us.length) (n2 : ∀ (i : Nat) q u, qs[i]? = some q → us[i]? = some u → UnO H q u) (hp : H p = some (.lst (qs.map V.ref ++ [.ref t]))) (ht : UnO H t u) : UL H p (us ++ [u]) := by
  refine ⟨qs ++ [t], by rw [List.map_append]; exact hp, by simp [n1], fun i q u' e1 e2 => ?_⟩
  by_cases c : i < qs.length
  · rw [List.getElem?_append_left c] at e1
    rw [List.getElem?_append_left (by omega)] at e2
    exact n2 i q u' e1 e2
  · rw [List.getElem?_append_right (by omega)] at e1
    rw [List.getElem?_append_right (by omega)] at e2
    cases h : i - qs.length with
    | zero =>
      rw [h] at e1
      rw [show i - us.length = 0 by omega] at e2
      cases e1; cases e2; exact ht
    | succ n => rw [h] at e1; cases e1
def spUnl : Sp := fun vs H Q _ => ∃ (w : Str) (a b : Addr) (ka kb : List (Key × V)), vs = [.str w, .ref a, .ref b] ∧ H a = some (.dK ka) ∧ H b = some (.dK kb) ∧ IntV ka ∧ IntV kb ∧ ka.length + kb.length < 90 ∧
  ((∀ k ∈ ka.map (·.1) ++ kb.map (·.1), ∃ i, k = Sum.inl i) ∨ ((∀ k ∈ ka.map (·.1) ++ kb.map (·.1), ∃ i, k = Sum.inr i) ∧ ∀ D : List Key, D.Nodup → (∀ k ∈ D, k ∈ ka.map (·.1) ++ kb.map (·.1)) → D.length < 64)) ∧
  ∀ (q : Addr) (ks : List Key) (H' : Hp), Same H H' → H q = none → ks.Nodup → ks.Pairwise kle → (∀ k, k ∈ ks ↔ k ∈ ka.map (·.1) ∨ k ∈ kb.map (·.1)) → UL H' q (unl w (vI ka) (vI kb) ks) → Q (.ref q) H'
theorem iteB {b : Bool} {A B : Prop} (h1 : b = true → A) (h2 : ¬ b = true → B) : if b = true then A else B := by
  split
  · next h => exact h1 h
  · next h => exact h2 h
section
variable (P : Program) {w : World} {K : PySem.W.Frag} {mg : Str → Option Value} (base : Heap) {a : Adr} {dvs : List V}
theorem ok_unlike_counts (R : RawF K mg "unlike_counts" (top 2) ["what", "named", "counts"] dvs) (T : Txt K mg a) :
    HasFn P w K mg base 1 "unlike_counts" ["what", "named", "counts"] (spUnl) dvs := by
  refine R.ok sc_unlike_counts (by walk_at "l0") ?_
  intro f cdv A outer s H vs Q E hr
  rintro ⟨w, a, b, ka, kb, rfl, ha, hb, ia, ib, kl, one, k⟩
  refine L2.xl ?_
  intro X _ _
  refine ⟨_, (pss_cons (ps_sl 3 sc_unlike_counts.nd (pe_lst pa_nil))
      (pss_cons (ps_for own_def rfl (pi_list (pe_callB (call_sortedS hr.hd) (by rfl) T.b_sorted PyProof.Rows.Boot.«sorted» (pa_1 (pe_op op_orS (pe_callTy call_setD (by rfl) T.b_set PyProof.Rows.Boot.«set» (pa_1 (pv 1))) (pe_callTy call_setD (by rfl) T.b_set PyProof.Rows.Boot.«set» (pa_1 (pv 2))))))) (pg_name (i := 4) sc_unlike_counts.nd rfl (by first | exact Or.inl rfl | exact Or.inr rfl))
      (pss_one (ps_if (pt_cmpR op_ne (pe_dget2 hr.u1 (pv 1) (pv 4) pe_int ⟨rfl, rfl, rfl, rfl⟩) (pe_dget2 hr.u1 (pv 2) (pv 4) pe_int ⟨rfl, rfl, rfl, rfl⟩) (nomark _)) (pss_one (ps_expr (pe_bm PySem.F.plainAttrs_list PySem.F.slot_list_append PySem.F.type_list_append mt_append (pv 3) (pa_1 (pe_tup (pa_c (pv 0) (pa_c (pv 4) (pa_c (pe_dget2 hr.u1 (pv 1) (pv 4) pe_int ⟨rfl, rfl, rfl, rfl⟩) (pa_1 (pe_dget2 hr.u1 (pv 2) (pv 4) pe_int ⟨rfl, rfl, rfl, rfl⟩)))))))))) pss_nil)))
      (pss_one (ps_ret (pv 3))))), ?_⟩
  have la : ka.length < 100 := by omega
  have lb : kb.length < 100 := by omega
  walk_at "go"
  intro f hf
  generalize hh : upd _ f _ = H1
  obtain ⟨s1, e1⟩ := newO hf hh
  clear hh
  have a1 := s1 _ _ ha
  have b1 := s1 _ _ hb
  walk_at "go"
  intro sa hsa nda
  generalize hh : upd _ sa _ = H2
  obtain ⟨s2, e2⟩ := newO hsa hh
  clear hh
  have b2 := s2 _ _ b1
  walk_at "go"
  intro sb hsb ndb
  generalize hh : upd _ sb _ = H3
  obtain ⟨s3, e3⟩ := newO hsb hh
  clear hh
  have e23 := s3 _ _ e2
  have dl : (ka.map (·.1)).length + (kb.map (·.1)).length < 128 := by rw [List.length_map, List.length_map]; omega
  walk_at "go"
  intro su D hsu ndu mu
  generalize hh : upd _ su _ = H4
  obtain ⟨s4, e4⟩ := newO hsu hh
  clear hh
  have Dl : D.length < 128 := by
    have := List.Nodup.length_le_of_subset ndu (l₂ := ka.map (·.1) ++ kb.map (·.1)) fun x hx => List.mem_append.mpr ((mu x).mp hx)
    rw [List.length_append] at this; omega
  have ok : OneK D := by
    rcases one with o | ⟨o, o2⟩
    · refine .inl ⟨D.map kkI, ?_⟩
      have : ∀ {l : List Key}, (∀ k ∈ l, ∃ i, k = Sum.inl i) → l = (l.map kkI).map Sum.inl := by
        intro l
        induction l with
        | nil => intro _; rfl
        | cons x l ih =>
          intro h
          obtain ⟨i, rfl⟩ := h x (List.mem_cons_self ..)
          rw [List.map_cons, List.map_cons, ← ih fun k m => h k (List.mem_cons_of_mem _ m)]; rfl
      exact this fun k m => o k (List.mem_append.mpr ((mu k).mp m))
    · refine .inr ⟨D.map kkS, ?_, ?_⟩
      · have : ∀ {l : List Key}, (∀ k ∈ l, ∃ i, k = Sum.inr i) → l = (l.map kkS).map Sum.inr := by
          intro l
          induction l with
          | nil => intro _; rfl
          | cons x l ih =>
            intro h
            obtain ⟨i, rfl⟩ := h x (List.mem_cons_self ..)
            rw [List.map_cons, List.map_cons, ← ih fun k m => h k (List.mem_cons_of_mem _ m)]; rfl
        exact this fun k m => o k (List.mem_append.mpr ((mu k).mp m))
      · rw [List.length_map]; exact o2 D ndu fun k m => List.mem_append.mpr ((mu k).mp m)
  walk_at "go"
  intro sl ks hsl pm pw
  generalize hh : upd _ sl _ = H5
  obtain ⟨s5, e5⟩ := newO hsl hh
  clear hh
  walk_at "go"
  have s15 : Same H1 H5 := ((s2.trans s3).trans s4).trans s5
  refine for_list (xs := ks.map kV) (fun i σ H' => Bx (∃ (v4 : Option V), σ = [some (.str w), some (.ref a), some (.ref b), some (.ref f), v4] ∧ UL H' f (unl w (vI ka) (vI kb) (ks.take i)) ∧ (∀ c u, c ≠ f → H5 c = some u → H' c = some u))) ⟨_, rfl, UL.nil (s15 _ _ e1), fun c u _ h => h⟩ (fun i σ H' _ y => ?_) ?_ ?_
  · obtain ⟨v4, rfl, ul, sm⟩ := y
    exact SqL.of (sm _ _ (ne_of_none ((s2.trans s3).trans s4 _ _ e1) hsl).symm e5)
  · rintro i x σ H6 hx ⟨v4, rfl, ul, sm⟩
    obtain ⟨kk, rfl, ek⟩ : ∃ kk, x = kV kk ∧ ks[i]? = some kk := by
      rw [List.getElem?_map] at hx
      cases e : ks[i]? with
      | none => rw [e] at hx; cases hx
      | some z => rw [e] at hx; cases hx; exact ⟨z, rfl, rfl⟩
    have et : ks.take (i + 1) = ks.take i ++ [kk] := by
      obtain ⟨il, rfl⟩ := List.getElem?_eq_some_iff.mp ek
      exact List.take_succ_eq_append_getElem il
    have il := (List.getElem?_eq_some_iff.mp ek).1
    have a6 := sm _ _ (ne_of_none ha hf) (s15 _ _ a1)
    have b6 := sm _ _ (ne_of_none hb hf) (s15 _ _ b1)
    have ida : IsD H6 a := .inl ⟨ka, Rd.of a6⟩
    have idb : IsD H6 b := .inl ⟨kb, Rd.of b6⟩
    have dga : DGet H6 a (kV kk) (valV ka kk) := .inl ⟨ka, kk, .inl a6, rfl, rfl⟩
    have dgb : DGet H6 b (kV kk) (valV kb kk) := .inl ⟨kb, kk, .inl b6, rfl, rfl⟩
    have ga := ia.get kk
    have gb := ib.get kk
    have sc : scal ((valV ka kk).getD (.int 0)) ((valV kb kk).getD (.int 0)) = true := by rw [ga, gb]; rfl
    have cmp : (!decide ((valV ka kk).getD (.int 0) = (valV kb kk).getD (.int 0))) = !decide (vI ka kk = vI kb kk) := by
      rw [ga, gb]
      congr 1
      exact decide_eq_decide.mpr ⟨V.int.inj, congrArg V.int⟩
    walk_at "go"
    refine iteB (fun c => ?_) (fun c => ?_)
    · rw [cmp] at c
      have c : vI ka kk ≠ vI kb kk := by simpa using c
      obtain ⟨qs, u1, u2, u3⟩ := ul
      have qz : (qs.map V.ref).length < sizeLine := by
        have := unl_len (w := w) (f := vI ka) (g := vI kb) (ks := ks.take i)
        have := pm.length_eq
        rw [List.length_take] at *
        rw [List.length_map, sizeLine_eq]; omega
      walk_at "go"
      rw [ga, gb]
      intro t ht
      generalize hh : upd _ t _ = H7
      obtain ⟨s7, e7⟩ := newO ht hh
      clear hh
      have u7 := s7 _ _ u1
      walk_at "go"
      refine ⟨_, rfl, ?_, fun c u n h => ?_⟩
      · rw [et, unl_yes c]
        refine UL.snoc (qs := qs) u2 (fun j q u h1 h2 => ?_) upd_same ?_
        · have := s7 _ _ (u3 j q u h1 h2)
          exact (upd_ne (fun z => by rw [z, u7] at this; cases this)).trans this
        · exact (upd_ne (fun z => by rw [z, u7] at e7; cases e7)).trans e7
      · rw [upd_ne n]; exact s7 _ _ (sm _ _ n h)
    · rw [cmp] at c
      have c : vI ka kk = vI kb kk := by simpa using c
      walk_at "go"
      refine ⟨_, rfl, ?_, sm⟩
      rw [et, unl_no c]; exact ul
  · rintro σ H6 ⟨v4, rfl, ul, sm⟩
    walk_at "go"
    rw [List.length_map, List.take_length] at ul
    refine k f ks H6 (fun c u e => sm _ _ (ne_of_none e hf) (s15 _ _ (s1 _ _ e))) hf (pm.nodup_iff.mpr ndu) pw (fun x => ?_) ul
    rw [pm.mem_iff, mu]
end
end K47

set_option hygiene false
set_option hygiene true
namespace K47
open PySem L2
theorem mem_keys {kvs : List (Key × V)} {k : Key} : k ∈ kvs.map (·.1) ↔ (valV kvs k).isSome = true := by
  rw [← valV_any, List.any_eq_true, List.mem_map]
  constructor
  · rintro ⟨p, m, e⟩; exact ⟨p, m, decide_eq_true e⟩
  · rintro ⟨p, m, e⟩; exact ⟨p, m, of_decide_eq_true e⟩
theorem Nmd.vI {kvs : List (Key × V)} {fs : List Lf} {kd : Str} (h : Nmd kvs fs kd) : vI kvs = cnt fs kd := by
  funext k
  unfold K47.vI
  rw [h.val]
  by_cases c : cnt fs kd k = 0
  · rw [if_pos c, c]
  · rw [if_neg c]
theorem Nmd.keys {kvs : List (Key × V)} {fs : List Lf} {kd : Str} (h : Nmd kvs fs kd) {k : Key} : k ∈ kvs.map (·.1) ↔ cnt fs kd k ≠ 0 := by
  rw [mem_keys, h.val]
  by_cases c : cnt fs kd k = 0
  · rw [if_pos c]; simp [c]
  · rw [if_neg c]; simp [c]
theorem Nmd.intV {kvs : List (Key × V)} {fs : List Lf} {kd : Str} (h : Nmd kvs fs kd) : IntV kvs := fun k v e => by
  rw [h.val] at e
  split at e
  · cases e
  · cases e; exact ⟨_, rfl⟩
theorem cnt_ne {fs : List Lf} {kd : Str} {k : Key} (h : cnt fs kd k ≠ 0) : ∃ f ∈ fs, f.kd = kd ∧ f.ky = some k := by
  unfold cnt at h
  have : (fs.filter (nms kd k)) ≠ [] := fun z => h (by rw [z]; rfl)
  obtain ⟨f, hf⟩ := List.exists_mem_of_ne_nil _ this
  obtain ⟨m, p⟩ := List.mem_filter.mp hf
  unfold nms at p
  rw [Bool.and_eq_true, decide_eq_true_eq, decide_eq_true_eq] at p
  exact ⟨f, m, p⟩
theorem kd_inl {f : Lf} {k : Key} (h : f.kd = "held" ∨ f.kd = "out") (e : f.ky = some k) : ∃ i, k = Sum.inl i := by
  cases f with
  | fr r => cases e
  | nu o r n => cases e; exact ⟨_, rfl⟩
  | na r x m =>
    rcases h with h | h
    · exact absurd h (by show ¬ (Str.ofString "named" = Str.ofString "held"); decide +kernel)
    · exact absurd h (by show ¬ (Str.ofString "named" = Str.ofString "out"); decide +kernel)
theorem kd_inr {f : Lf} {k : Key} (h : f.kd = "named") (e : f.ky = some k) : ∃ r x m, f = .na r x m ∧ k = Sum.inr x := by
  cases f with
  | fr r => cases e
  | nu o r n =>
    cases o
    · exact absurd h (by show ¬ (Str.ofString "held" = Str.ofString "named"); decide +kernel)
    · exact absurd h (by show ¬ (Str.ofString "out" = Str.ofString "named"); decide +kernel)
  | na r x m => cases e; exact ⟨r, x, m, rfl, rfl⟩
theorem enD_val : ∀ {xs : List V} {n : Nat} {k : Key}, valV ((xs.zipIdx n).map fun q => ((Sum.inl (q.2 : Int) : Key), q.1)) k = match k with | .inl i => if (n : Int) ≤ i ∧ i < n + xs.length then xs[(i - n).toNat]? else none | .inr _ => none
  | [], n, k => by
    cases k with
    | inl i => show (none : Option V) = if _ then _ else _; rw [if_neg (by simp only [List.length_nil]; omega)]
    | inr x => rfl
  | x :: xs, n, k => by
    rw [List.zipIdx_cons, List.map_cons]
    cases k with
    | inl i =>
      by_cases c : (n : Int) = i
      · rw [valV_pos (by rw [c])]
        subst c
        show some x = if _ then _ else _
        rw [if_pos (by simp; omega)]
        simp
      · rw [valV_neg (fun z => c (Sum.inl.inj z)), enD_val]
        show (if _ then _ else _) = if _ then _ else _
        by_cases d : (n : Int) ≤ i ∧ i < n + (x :: xs).length
        · rw [if_pos d, if_pos (by rw [List.length_cons] at d; omega)]
          rw [show (i - (n : Int)).toNat = (i - ((n + 1 : Nat) : Int)).toNat + 1 by omega]
          simp
        · rw [if_neg d, if_neg (by rw [List.length_cons] at d; omega)]
    | inr y => rw [valV_neg (fun z => by cases z), enD_val]
def cI (cs : List Int) : Key → Int := vI (enD (cs.map V.int))
theorem cI_val (cs : List Int) (k : Key) : valV (enD (cs.map V.int)) k = match k with | .inl i => if 0 ≤ i ∧ i < cs.length then (cs[i.toNat]?).map V.int else none | .inr _ => none := by
  unfold enD
  rw [enD_val]
  cases k with
  | inl i => simp
  | inr x => rfl
theorem cI_intV (cs : List Int) : IntV (enD (cs.map V.int)) := fun k v e => by
  rw [cI_val] at e
  cases k with
  | inl i =>
    dsimp only at e
    split at e
    · cases h : cs[i.toNat]? with
      | none => rw [h] at e; cases e
      | some n => rw [h] at e; cases e; exact ⟨n, rfl⟩
    · cases e
  | inr x => cases e
theorem cI_keys {cs : List Int} {k : Key} : k ∈ (enD (cs.map V.int)).map (·.1) ↔ ∃ j : Nat, j < cs.length ∧ k = .inl (j : Int) := by
  rw [mem_keys, cI_val]
  cases k with
  | inl i =>
    dsimp only
    by_cases c : 0 ≤ i ∧ i < cs.length
    · rw [if_pos c, List.getElem?_eq_getElem (by omega)]
      refine ⟨fun _ => ⟨i.toNat, by omega, by rw [Int.toNat_of_nonneg c.1]⟩, fun _ => rfl⟩
    · rw [if_neg c]
      refine ⟨fun h => (by cases h), fun ⟨j, jl, e⟩ => ?_⟩
      have := Sum.inl.inj e
      exact absurd ⟨by omega, by omega⟩ c
  | inr x => exact ⟨fun h => (by cases h), fun ⟨j, _, e⟩ => (by cases e)⟩
theorem enD_len (xs : List V) : (enD xs).length = xs.length := by unfold enD; simp
def usD (sh : List (Str × Int × Int)) : List (Key × V) := sh.foldl (fun kvs t => putK kvs (.inr t.1) (.int t.2.2)) []
theorem usD_snoc (sh : List (Str × Int × Int)) (t : Str × Int × Int) : usD (sh ++ [t]) = putK (usD sh) (.inr t.1) (.int t.2.2) := by unfold usD; rw [List.foldl_append]; rfl
theorem usD_ok : ∀ sh : List (Str × Int × Int), IntV (usD sh) ∧ (∀ k, k ∈ (usD sh).map (·.1) ↔ ∃ t ∈ sh, k = .inr t.1) ∧ (usD sh).length ≤ sh.length := by
  have key : ∀ sh : List (Str × Int × Int), IntV (usD sh.reverse) ∧ (∀ k, k ∈ (usD sh.reverse).map (·.1) ↔ ∃ t ∈ sh.reverse, k = .inr t.1) ∧ (usD sh.reverse).length ≤ sh.reverse.length := by
    intro sh
    induction sh with
    | nil => exact ⟨fun k v e => (by cases e), fun k => (by simp [usD]), Nat.le_refl _⟩
    | cons t sh ih =>
      obtain ⟨h1, h2, h3⟩ := ih
      rw [List.reverse_cons, usD_snoc]
      refine ⟨fun k v e => ?_, fun k => ?_, ?_⟩
      · rw [valV_put] at e
        split at e
        · cases e; exact ⟨_, rfl⟩
        · exact h1 k v e
      · rw [mem_keys, valV_put]
        by_cases c : k = Sum.inr t.1
        · rw [if_pos c]; exact ⟨fun _ => ⟨t, by simp, c⟩, fun _ => rfl⟩
        · rw [if_neg c, ← mem_keys, h2]
          refine ⟨fun ⟨u, m, e⟩ => ⟨u, List.mem_append_left _ m, e⟩, fun ⟨u, m, e⟩ => ?_⟩
          rcases List.mem_append.mp m with m | m
          · exact ⟨u, m, e⟩
          · rw [List.mem_singleton.mp m] at e; exact absurd e c
      · have := length_putK (usD sh.reverse) (Sum.inr t.1) (.int t.2.2)
        rw [List.length_append, List.length_singleton]; omega
  intro sh
  have := key sh.reverse
  rwa [List.reverse_reverse] at this
def uI (sh : List (Str × Int × Int)) : Key → Int := vI (usD sh)
def ShO (H : Hp) (q : Addr) (t : Str × Int × Int) : Prop := H q = some (.tup [.str t.1, .int t.2.1, .int t.2.2])
def ShL (H : Hp) (p : Addr) (sh : List (Str × Int × Int)) : Prop := ∃ qs : List Addr, H p = some (.lst (qs.map V.ref)) ∧ qs.length = sh.length ∧ ∀ (i : Nat) q t, qs[i]? = some q → sh[i]? = some t → ShO H q t
theorem ShL.same {H H' : Hp} {p : Addr} {sh : List (Str × Int × Int)} (s : Same H H') (h : ShL H p sh) : ShL H' p sh := let ⟨qs, h1, h2, h3⟩ := h; ⟨qs, s _ _ h1, h2, fun i q u e1 e2 => s _ _ (h3 i q u e1 e2)⟩
structure Srt (ks : List Key) (P : Key → Prop) : Prop where
  nd : ks.Nodup
  pw : ks.Pairwise kle
  mem : ∀ k, k ∈ ks ↔ P k
def PI (fs : List Lf) (kd : Str) (cs : List Int) (k : Key) : Prop := cnt fs kd k ≠ 0 ∨ ∃ j : Nat, j < cs.length ∧ k = .inl (j : Int)
def PN (fs : List Lf) (sh : List (Str × Int × Int)) (k : Key) : Prop := cnt fs "named" k ≠ 0 ∨ ∃ t ∈ sh, k = .inr t.1
def NmIn (fs : List Lf) (sh : List (Str × Int × Int)) (nm : List Str) : Prop := (∀ f ∈ fs, ∀ r x m, f = .na r x m → x ∈ nm) ∧ (∀ t ∈ sh, t.1 ∈ nm) ∧ nm.length < 60
theorem UL.cat {H : Hp} {p q r : Addr} {us vs : List Un4} {xs ys : List V} (h1 : UL H p us) (h2 : UL H q vs) (ep : H p = some (.lst xs)) (eq : H q = some (.lst ys)) (er : H r = some (.lst (xs ++ ys))) : UL H r (us ++ vs) := by
  obtain ⟨qs, a1, a2, a3⟩ := h1
  obtain ⟨rs, b1, b2, b3⟩ := h2
  rw [a1] at ep; cases ep
  rw [b1] at eq; cases eq
  refine ⟨qs ++ rs, by rw [List.map_append]; exact er, by simp [a2, b2], fun i q u e1 e2 => ?_⟩
  by_cases c : i < qs.length
  · rw [List.getElem?_append_left c] at e1
    rw [List.getElem?_append_left (by omega)] at e2
    exact a3 i q u e1 e2
  · rw [List.getElem?_append_right (by omega)] at e1
    rw [List.getElem?_append_right (by omega)] at e2
    rw [a2] at e1
    exact b3 _ q u e1 e2
theorem oneI {ka : List (Key × V)} {fs : List Lf} {kd : Str} (n : Nmd ka fs kd) (h : kd = "held" ∨ kd = "out") (cs : List Int) : (∀ k ∈ ka.map (·.1) ++ (enD (cs.map V.int)).map (·.1), ∃ i, k = Sum.inl i) ∨ ((∀ k ∈ ka.map (·.1) ++ (enD (cs.map V.int)).map (·.1), ∃ i, k = Sum.inr i) ∧ ∀ D : List Key, D.Nodup → (∀ k ∈ D, k ∈ ka.map (·.1) ++ (enD (cs.map V.int)).map (·.1)) → D.length < 64) := by
  refine .inl fun k m => ?_
  rcases List.mem_append.mp m with m | m
  · obtain ⟨f, _, e1, e2⟩ := cnt_ne (n.keys.mp m)
    exact kd_inl (by rw [e1]; exact h) e2
  · obtain ⟨j, _, e⟩ := cI_keys.mp m
    exact ⟨_, e⟩
theorem oneS {ka : List (Key × V)} {fs : List Lf} {sh : List (Str × Int × Int)} {nm : List Str} (n : Nmd ka fs "named") (h : NmIn fs sh nm) : (∀ k ∈ ka.map (·.1) ++ (usD sh).map (·.1), ∃ i, k = Sum.inl i) ∨ ((∀ k ∈ ka.map (·.1) ++ (usD sh).map (·.1), ∃ i, k = Sum.inr i) ∧ ∀ D : List Key, D.Nodup → (∀ k ∈ D, k ∈ ka.map (·.1) ++ (usD sh).map (·.1)) → D.length < 64) := by
  have key : ∀ k ∈ ka.map (·.1) ++ (usD sh).map (·.1), k ∈ nm.map Sum.inr := fun k m => by
    rcases List.mem_append.mp m with m | m
    · obtain ⟨f, mf, e1, e2⟩ := cnt_ne (n.keys.mp m)
      obtain ⟨r, x, mm, ef, rfl⟩ := kd_inr e1 e2
      exact List.mem_map.mpr ⟨x, h.1 f mf r x mm ef, rfl⟩
    · obtain ⟨t, mt, rfl⟩ := ((usD_ok sh).2.1 k).mp m
      exact List.mem_map.mpr ⟨t.1, h.2.1 t mt, rfl⟩
  refine .inr ⟨fun k m => ?_, fun D nd sub => ?_⟩
  · obtain ⟨x, _, e⟩ := List.mem_map.mp (key k m)
    exact ⟨x, e.symm⟩
  · have := List.Nodup.length_le_of_subset nd (l₂ := nm.map Sum.inr) fun k m => key k (sub k m)
    rw [List.length_map] at this
    have := h.2.2
    omega
def spTal : Sp := fun vs H Q _ => ∃ (pr pf ps ph : Addr) (qs : List Addr) (fs : List Lf) (cf cs : List Int) (sh : List (Str × Int × Int)) (nm : List Str), vs = [.ref pr, .ref pf, .ref ps, .ref ph] ∧ H pr = some (.lst (qs.map V.ref)) ∧ RowsA H qs fs ∧ fs.length < 65 ∧
  H pf = some (.lst (cf.map V.int)) ∧ H ps = some (.lst (cs.map V.int)) ∧ cf.length < 20 ∧ cs.length < 20 ∧ ShL H ph sh ∧ sh.length < 20 ∧ NmIn fs sh nm ∧
  ∀ (q : Addr) (k1 k2 k3 : List Key) (H' : Hp), Same H H' → H q = none → Srt k1 (PI fs "held" cf) → Srt k2 (PI fs "out" cs) → Srt k3 (PN fs sh) → UL H' q (unl "frame" (cnt fs "held") (cI cf) k1 ++ unl "slot" (cnt fs "out") (cI cs) k2 ++ unl "share" (cnt fs "named") (uI sh) k3) → Q (.ref q) H'
section
variable (P : Program) {w : World} {K : PySem.W.Frag} {mg : Str → Option Value} (base : Heap) {a : Adr} {dvs : List V}
theorem ok_tallied (R : RawF K mg "tallied" (top 3) ["rows", "frames", "slots", "shares"] dvs) (T : Txt K mg a)
    (h_unlike_counts : HasFn P w K mg base 1 "unlike_counts" ["what", "named", "counts"] (spUnl) [])
    (h_named_by : HasFn P w K mg base 1 "named_by" ["rows", "kind"] (spNmd) []) :
    HasFn P w K mg base 2 "tallied" ["rows", "frames", "slots", "shares"] (spTal) dvs := by
  refine R.ok sc_tallied (by walk_at "l0") ?_
  intro f cdv A outer s H vs Q E hr
  rintro ⟨pr, pf, ps, ph, qs, fs, cf, cs, sh, nm, rfl, hrow, ra, fl, hf, hs, cl, sl, hh, shl, nn, k⟩
  refine L2.xl ?_
  intro X _ _
  refine ⟨_, (pss_cons (ps_sl 4 sc_tallied.nd pe_dnewK)
      (pss_cons (ps_for own_def rfl (pi_list (pv 3)) (pg_tup (n := 3) rfl (pgs_cons (pg_name (i := 5) sc_tallied.nd rfl (by first | exact Or.inl rfl | exact Or.inr rfl)) (pgs_cons (pg_name (i := 6) sc_tallied.nd rfl (by first | exact Or.inl rfl | exact Or.inr rfl)) (pgs_cons (pg_name (i := 7) sc_tallied.nd rfl (by first | exact Or.inl rfl | exact Or.inr rfl)) pgs_nil))))
      (pss_one (ps_dput hr.u1 (pv 4) (pv 5) (pv 7) rfl)))
      (pss_cons (ps_sl 8 sc_tallied.nd (pe_fn h_unlike_counts hr.m (by rfl) pass_def (pa_c pe_str (pa_c (pe_fn h_named_by hr.m (by rfl) pass_def (pa_c (pv 0) (pa_1 pe_str))) (pa_1 (pe_dict_enum rfl (by rfl) T.b_dict (by rfl) T.b_enumerate (pv 1)))))))
      (pss_cons (ps_sl 8 sc_tallied.nd (pe_op op_cat (pv 8) (pe_fn h_unlike_counts hr.m (by rfl) pass_def (pa_c pe_str (pa_c (pe_fn h_named_by hr.m (by rfl) pass_def (pa_c (pv 0) (pa_1 pe_str))) (pa_1 (pe_dict_enum rfl (by rfl) T.b_dict (by rfl) T.b_enumerate (pv 2))))))))
      (pss_one (ps_ret (pe_op op_cat (pv 8) (pe_fn h_unlike_counts hr.m (by rfl) pass_def (pa_c pe_str (pa_c (pe_fn h_named_by hr.m (by rfl) pass_def (pa_c (pv 0) (pa_1 pe_str))) (pa_1 (pv 4)))))))))))), ?_⟩
  walk_at "go"
  intro d hd
  generalize hh : upd _ d _ = H1
  obtain ⟨s1, e1⟩ := newO hd hh
  clear hh
  obtain ⟨ts, t1, t2, t3⟩ := hh.same s1
  walk_at "go"
  refine for_list (xs := ts.map V.ref) (fun i σ H' => Bx (∃ (v5 v6 v7 v8 : Option V), σ = [some (.ref pr), some (.ref pf), some (.ref ps), some (.ref ph), some (.ref d), v5, v6, v7, v8] ∧ H' d = some (.dK (usD (sh.take i))) ∧ (∀ c u, c ≠ d → H1 c = some u → H' c = some u))) ⟨_, _, _, _, rfl, e1, fun c u _ h => h⟩ (fun i σ H' _ y => ?_) ?_ ?_
  · obtain ⟨v5, v6, v7, v8, rfl, ed, sm⟩ := y
    exact SqL.of (sm _ _ (fun z => by rw [z, e1] at t1; cases t1) t1)
  · rintro i x σ H2 hx ⟨v5, v6, v7, v8, rfl, ed, sm⟩
    rw [List.getElem?_map] at hx
    cases eq : ts[i]? with
    | none => rw [eq] at hx; cases hx
    | some tq =>
      rw [eq] at hx
      cases hx
      have il : i < sh.length := by rw [← t2]; exact (List.getElem?_eq_some_iff.mp eq).1
      have so := t3 i tq sh[i] eq (List.getElem?_eq_getElem il)
      have so2 : ShO H2 tq sh[i] := sm _ _ (fun z => by have so : H1 tq = _ := so; rw [z, e1] at so; cases so) so
      have so2 : H2 tq = some (.tup [.str sh[i].1, .int sh[i].2.1, .int sh[i].2.2]) := so2
      have et : sh.take (i + 1) = sh.take i ++ [sh[i]] := List.take_succ_eq_append_getElem il
      have uz : (usD (sh.take i)).length < sizeLine := by have := (usD_ok (sh.take i)).2.2; rw [List.length_take] at this; rw [sizeLine_eq]; omega
      have dp := DPut.k (k := Sum.inr sh[i].1) (v := V.int sh[i].2.2) ed uz
      walk_at "go"
      refine ⟨_, _, _, _, rfl, ?_, fun c u n h => ?_⟩
      · rw [upd_same, et, usD_snoc]
      · rw [upd_ne n]; exact sm _ _ n h
  · rintro σ H2 ⟨v5, v6, v7, v8, rfl, ed, sm⟩
    rw [List.length_map, t2, List.take_length] at ed
    have s2 : Same H H2 := fun c u h => sm _ _ (ne_of_none h hd) (s1 _ _ h)
    have r2 := s2 _ _ hrow
    have ra2 := ra.same s2
    have f2 := s2 _ _ hf
    have fl70 : fs.length < 70 := by omega
    have n1 : ¬ ("held" : Str) = "fresh" := by decide +kernel
    walk_at "go"
    intro d1 kv1 H3 s3 hd1 e3 nm1
    have f3 := s3 _ _ f2
    walk_at "go"
    intro en hen
    generalize hh : upd _ en _ = H4
    obtain ⟨s4, e4⟩ := newO hen hh
    clear hh
    have e34 := s4 _ _ e3
    have iv1 := nm1.intV
    have iv2 := cI_intV cf
    have ll : kv1.length + (enD (cf.map V.int)).length < 90 := by have := nm1.len; rw [enD_len, List.length_map]; omega
    have on1 := oneI nm1 (.inl rfl) cf
    walk_at "go"
    intro q1 k1 H5 s5 hq1 nd1 pw1 mm1 ul1
    have s25 : Same H H5 := ((s2.trans s3).trans s4).trans s5
    have r5 := s25 _ _ hrow
    have ra5 := ra.same s25
    have f5 := s25 _ _ hs
    have n2 : ¬ ("out" : Str) = "fresh" := by decide +kernel
    walk_at "go"
    intro d2 kv2 H6 s6 hd2 e6 nm2
    have f6 := s6 _ _ f5
    walk_at "go"
    intro en2 hen2
    generalize hh : upd _ en2 _ = H7
    obtain ⟨s7, e7⟩ := newO hen2 hh
    clear hh
    have e67 := s7 _ _ e6
    have iv3 := nm2.intV
    have iv4 := cI_intV cs
    have ll2 : kv2.length + (enD (cs.map V.int)).length < 90 := by have := nm2.len; rw [enD_len, List.length_map]; omega
    have on2 := oneI nm2 (.inr rfl) cs
    walk_at "go"
    intro q2 k2 H8 s8 hq2 nd2 pw2 mm2 ul2
    have s58 : Same H5 H8 := (s6.trans s7).trans s8
    have ul18 := ul1.same s58
    obtain ⟨l1, a1, a2, a3⟩ := id ul18
    obtain ⟨l2, b1, b2, b3⟩ := id ul2
    have bnd : ∀ {ks : List Key} {x y : List (Key × V)}, ks.Nodup → (∀ k, k ∈ ks ↔ k ∈ x.map (·.1) ∨ k ∈ y.map (·.1)) → ks.length ≤ x.length + y.length := fun {ks x y} nd mm => by
      have := List.Nodup.length_le_of_subset nd (l₂ := x.map (·.1) ++ y.map (·.1)) fun k m => List.mem_append.mpr ((mm k).mp m)
      rwa [List.length_append, List.length_map, List.length_map] at this
    have z1 := bnd nd1 mm1
    have z2 := bnd nd2 mm2
    have z3 := unl_len (w := "frame") (f := vI kv1) (g := vI (enD (cf.map V.int))) (ks := k1)
    have z4 := unl_len (w := "slot") (f := vI kv2) (g := vI (enD (cs.map V.int))) (ks := k2)
    have z12 : (l1.map V.ref).length + (l2.map V.ref).length ≤ sizeLine := by rw [List.length_map, List.length_map, a2, b2, sizeLine_eq]; omega
    walk_at "go"
    intro q12 hq12
    generalize hh : upd _ q12 _ = H9
    obtain ⟨s9, e9⟩ := newO hq12 hh
    clear hh
    have ul12 := UL.cat (ul18.same s9) (ul2.same s9) (s9 _ _ a1) (s9 _ _ b1) e9
    have s29 : Same H H9 := (s25.trans s58).trans s9
    have s39 : Same H2 H9 := ((((s3.trans s4).trans s5).trans s58).trans s9)
    have r9 := s29 _ _ hrow
    have ra9 := ra.same s29
    have n3 : ¬ ("named" : Str) = "fresh" := by decide +kernel
    walk_at "go"
    intro d3 kv3 H10 s10 hd3 e10 nm3
    have u10 := s10 _ _ (s39 _ _ ed)
    have iv5 := nm3.intV
    have iv6 := (usD_ok sh).1
    have ll3 : kv3.length + (usD sh).length < 90 := by have := nm3.len; have := (usD_ok sh).2.2; omega
    have on3 := oneS nm3 nn
    walk_at "go"
    intro q3 k3 H11 s11 hq3 nd3 pw3 mm3 ul3
    have ul12b := (ul12.same s10).same s11
    obtain ⟨l3, c1, c2, c3⟩ := id ul12b
    obtain ⟨l4, g1, g2, g3⟩ := id ul3
    have z5 := bnd nd3 mm3
    have z6 := unl_len (w := "share") (f := vI kv3) (g := vI (usD sh)) (ks := k3)
    have z34 : (l3.map V.ref).length + (l4.map V.ref).length ≤ sizeLine := by rw [List.length_map, List.length_map, c2, g2, List.length_append, sizeLine_eq]; omega
    walk_at "go"
    intro qz hqz
    generalize hh : upd _ qz _ = H12
    obtain ⟨s12, e12⟩ := newO hqz hh
    clear hh
    have ulz := UL.cat (ul12b.same s12) (ul3.same s12) (s12 _ _ c1) (s12 _ _ g1) e12
    rw [nm1.vI, nm2.vI, nm3.vI] at ulz
    walk_at "go"
    refine k qz k1 k2 k3 H12 (((s29.trans s10).trans s11).trans s12) ?_ ⟨nd1, pw1, fun x => ?_⟩ ⟨nd2, pw2, fun x => ?_⟩ ⟨nd3, pw3, fun x => ?_⟩ ulz
    · cases h : H qz with
      | none => rfl
      | some u => rw [((s29.trans s10).trans s11) _ _ h] at hqz; cases hqz
    · rw [mm1, nm1.keys, cI_keys]; rfl
    · rw [mm2, nm2.keys, cI_keys]; rfl
    · rw [mm3, nm3.keys, (usD_ok sh).2.1]; rfl
end
end K47

set_option hygiene false
set_option hygiene true
namespace K47
open PySem L2
def spCell (K : PySem.W.Frag) : Sp := fun vs H Q _ => ∃ (p : Addr) (ns : List Int) (k : Int), vs = [.ref p, .int k] ∧ SqL K H p (ns.map V.int) ∧ 0 ≤ k ∧ Q (.int (ns.getD k.toNat 0)) H
def spWhole : Sp := fun vs H Q _ => ∃ i, vs = [.int i] ∧ Q (.bl true) H
section
variable (P : Program) {w : World} {K : PySem.W.Frag} {mg : Str → Option Value} (base : Heap) {a : Adr} {dvs : List V}
theorem ok__law_cell_at (R : RawF K mg "_law_cell_at" (top 5) ["_law_script", "_law_k"] dvs) (T : Txt K mg a) :
    HasFn P w K mg base 1 "_law_cell_at" ["_law_script", "_law_k"] (spCell K) dvs := by
  refine R.ok sc__law_cell_at (by walk_at "l0") ?_
  intro f cdv A outer s H vs Q E hr
  rintro ⟨p, ns, k, rfl, S, h0, q⟩
  refine L2.xl ?_
  intro X _ _
  refine ⟨_, (pss_cons (ps_if (pt_cmpR op_lt (pv 1) (pe_callB call_len_seq (by rfl) T.b_len PySem.boot_len (pa_1 (pv 0))) (nomark _)) (pss_one (ps_ret (pe_x ix_list (pv 0) (pv 1)))) pss_nil)
      (pss_one (ps_ret pe_int))), ?_⟩
  walk_at "sr"
  refine ⟨_, rfl, _, rfl, p, _, rfl, .inl S, _, _, rfl, rfl, _, rfl, iteD (fun c => ?_) fun c => ?_⟩
  · rw [List.length_map] at c
    exact ⟨_, rfl, _, rfl, p, _, _, _, rfl, rfl, S, atI_getD h0 c, q⟩
  · rw [List.length_map] at c
    rw [getD_out (by omega)] at q
    exact q
theorem ok__law_whole (R : RawF K mg "_law_whole" (top 6) ["_law_found"] dvs) (T : Txt K mg a) :
    HasFn P w K mg base 1 "_law_whole" ["_law_found"] (spWhole) dvs := by
  refine R.ok sc__law_whole (by walk_at "l0") ?_
  intro f cdv A outer s H vs Q E hr
  rintro ⟨i, rfl, q⟩
  refine L2.xl ?_
  intro X _ _
  refine ⟨_, (pss_one (ps_ret (pe_and (pe_callB call_isinst (by rfl) T.b_isinstance PyProof.Rows.Boot.«isinstance» (pa_c (pv 0) (pa_1 (pe_bltn (v := .ty "int") (by rfl) T.b_int PyProof.Rows.Boot.«int» rfl)))) (pe_one (pe_not (pe_callB call_isinst (by rfl) T.b_isinstance PyProof.Rows.Boot.«isinstance» (pa_c (pv 0) (pa_1 (pe_bltn (v := .ty "bool") (by rfl) T.b_bool PyProof.Rows.Boot.«bool» rfl))))))))), ?_⟩
  exact ⟨_, rfl, .int i, .ty "int", .type "int", true, rfl, rfl, .of (.int i), kit_self K _, true, rfl, iteT ⟨_, rfl, .int i, .ty "bool", .type "int", false, rfl, rfl, .of (.int i), kit_ib K, false, rfl, q⟩⟩
end
def drawn (c b p m : Int) : Int := (c % 1000000007 + 1) * b % p / 5 % m
theorem drawn_0 (c b p : Int) {m : Int} (h : 0 < m) : 0 ≤ drawn c b p m := Int.emod_nonneg _ (by omega)
theorem drawn_lt (c b p : Int) {m : Int} (h : 0 < m) : drawn c b p m < m := Int.emod_lt_of_pos _ h
def spDrawn : Sp := fun vs H Q _ => ∃ c b p m : Int, vs = [.int c, .int b, .int p, .int m] ∧ (-(2 ^ 64) < b ∧ b < 2 ^ 64) ∧ 0 < p ∧ 0 < m ∧ Q (.int (drawn c b p m)) H
section
variable (P : Program) {w : World} {K : PySem.W.Frag} {mg : Str → Option Value} (base : Heap) {a : Adr} {dvs : List V}
theorem ok__law_drawn (R : RawF K mg "_law_drawn" (top 7) ["_law_cell", "_law_by", "_law_prime", "_law_many_here"] dvs) (T : Txt K mg a) :
    HasFn P w K mg base 1 "_law_drawn" ["_law_cell", "_law_by", "_law_prime", "_law_many_here"] (spDrawn) dvs := by
  refine R.ok sc__law_drawn (by walk_at "l0") ?_
  intro f cdv A outer s H vs Q E hr
  rintro ⟨c, b, p, m, rfl, hb, hp, hm, q⟩
  refine L2.xl ?_
  intro X _ _
  refine ⟨_, (pss_one (ps_ret (pe_op op_mod (pe_op op_fdiv (pe_op op_mod (pe_op op_mul (pe_op op_add (pe_op op_mod (pv 0) pe_int) pe_int) (pv 1)) (pv 2)) pe_int) (pv 3)))), ?_⟩
  walk_at "go"
  exact q
end
theorem abc_at {i : Int} (h0 : 0 ≤ i) (h1 : i < 26) : atI (Str.ofString "abcdefghijklmnopqrstuvwxyz").cps.toList i = some (97 + i).toNat := by
  have all : ∀ j : Nat, j < 26 → (Str.ofString "abcdefghijklmnopqrstuvwxyz").cps.toList[j]? = some (97 + j) := by decide +kernel
  obtain ⟨j, rfl⟩ : ∃ j : Nat, i = (j : Int) := ⟨i.toNat, by omega⟩
  rw [show (97 + (j : Int)).toNat = 97 + j by omega]
  exact atI_nat (all j (by omega))
def turnI (j : Nat) (d z : Int) : Int := if decide (V.int (0 + (j : Int)) = V.int (d % z)) = true then 1 else 0
def chK (bs : List Int) (d z : Int) (k : Nat) (i : Nat) : Nat := (97 + (bs.getD i 0 + 11 * (0 + (k : Int)) * turnI i d z) % 26).toNat
def nmK (bs : List Int) (d z : Int) (k n : Nat) : Str := ⟨((List.range n).map (chK bs d z k)).toArray⟩
theorem nmK_list {bs : List Int} {d z : Int} {k n : Nat} : (nmK bs d z k n).cps.toList = (List.range n).map (chK bs d z k) := by unfold nmK; simp
theorem nmK_len {bs : List Int} {d z : Int} {k n : Nat} : (nmK bs d z k n).length = n := by
  show (nmK bs d z k n).cps.size = n
  unfold nmK; simp
theorem chK_ok {bs : List Int} {d z : Int} {k i : Nat} : 97 ≤ chK bs d z k i ∧ chK bs d z k i ≤ 122 := by
  unfold chK
  have h0 := Int.emod_nonneg (bs.getD i 0 + 11 * (0 + (k : Int)) * turnI i d z) (show (26 : Int) ≠ 0 by decide)
  have h1 := Int.emod_lt_of_pos (bs.getD i 0 + 11 * (0 + (k : Int)) * turnI i d z) (show (0 : Int) < 26 by decide)
  omega
theorem nmK_ok {bs : List Int} {d z : Int} {k n : Nat} : StrOk (nmK bs d z k n) := by
  show PyData.canLay0 (.str _) = true
  have : (nmK bs d z k n).cps.all (fun x => decide (x < 0x110000)) = true := by
    rw [Array.all_eq_true_iff_forall_mem]
    intro x hx
    have hx : x ∈ (nmK bs d z k n).cps.toList := by simpa using hx
    rw [nmK_list] at hx
    obtain ⟨i, _, rfl⟩ := List.mem_map.mp hx
    have := (chK_ok (bs := bs) (d := d) (z := z) (k := k) (i := i)).2
    exact decide_eq_true (by omega)
  simpa [PyData.canLay0, PyData.strOk] using this
theorem one_ok {c : Nat} (h : c < 0x110000) : StrOk ⟨#[c]⟩ := by
  show PyData.canLay0 (.str _) = true
  simp [PyData.canLay0, PyData.strOk, h]
theorem nmK_succ {bs : List Int} {d z : Int} {k n : Nat} : nmK bs d z k n ++ ⟨#[chK bs d z k n]⟩ = nmK bs d z k (n + 1) := by
  show (⟨((List.range n).map (chK bs d z k)).toArray ++ #[chK bs d z k n]⟩ : Str) = ⟨((List.range (n + 1)).map (chK bs d z k)).toArray⟩
  congr 1
  rw [List.range_succ]
  simp
theorem nmK_ne {bs : List Int} {d : Int} {n a b : Nat} (h1 : 1 ≤ n) (ab : a < b) (b3 : b < 3) : nmK bs d (n : Int) a n ≠ nmK bs d (n : Int) b n := fun e => by
  have e := congrArg (fun x : Str => x.cps.toList) e
  rw [show (nmK bs d (n : Int) a n).cps.toList = _ from nmK_list, show (nmK bs d (n : Int) b n).cps.toList = _ from nmK_list] at e
  have p0 := Int.emod_nonneg d (show (n : Int) ≠ 0 by omega)
  have p1 := Int.emod_lt_of_pos d (show (0 : Int) < (n : Int) by omega)
  obtain ⟨j, ej⟩ : ∃ j : Nat, d % (n : Int) = (j : Int) := ⟨(d % (n : Int)).toNat, by omega⟩
  have e2 := congrArg (fun l : List Nat => l[j]?) e
  simp only [List.getElem?_map, List.getElem?_range (show j < n by omega), Option.map_some] at e2
  have e3 := Option.some.inj e2
  have t1 : turnI j d (n : Int) = 1 := by unfold turnI; rw [if_pos (decide_eq_true (by rw [ej, Int.zero_add]))]
  unfold chK at e3
  rw [t1] at e3
  have a0 := Int.emod_nonneg (bs.getD j 0 + 11 * (0 + (a : Int)) * 1) (show (26 : Int) ≠ 0 by decide)
  have a1 := Int.emod_nonneg (bs.getD j 0 + 11 * (0 + (b : Int)) * 1) (show (26 : Int) ≠ 0 by decide)
  omega
def spNames3 : Sp := fun vs H Q _ => ∃ c : Int, vs = [.int c] ∧ ∀ (q : Addr) (x y z : Str) (H' : Hp), H' q = some (.lst [.str x, .str y, .str z]) → StrOk x → StrOk y → StrOk z → [x, y, z].Nodup → Same H H' → H q = none → Q (.ref q) H'
section
variable (P : Program) {w : World} {K : PySem.W.Frag} {mg : Str → Option Value} (base : Heap) {a : Adr} {dvs : List V}
theorem ok__law_names (R : RawF K mg "_law_names" (top 8) ["_law_cell"] dvs) (T : Txt K mg a)
    (h__law_drawn : HasFn P w K mg base 1 "_law_drawn" ["_law_cell", "_law_by", "_law_prime", "_law_many_here"] (spDrawn) []) :
    HasFn P w K mg base 2 "_law_names" ["_law_cell"] (spNames3) dvs := by
  refine R.ok sc__law_names (by walk_at "l0") ?_
  intro f cdv A outer s H vs Q E hr
  rintro ⟨c, rfl, k⟩
  refine L2.xl ?_
  intro X _ _
  refine ⟨_, (pss_cons (ps_sl 1 sc__law_names.nd pe_str)
      (pss_cons (ps_sl 2 sc__law_names.nd (pe_op op_add pe_int (pe_op op_mod (pv 0) pe_int)))
      (pss_cons (ps_sl 3 sc__law_names.nd (pe_op op_mod (pe_op op_fdiv (pv 0) pe_int) (pv 2)))
      (pss_cons (ps_setC (j := 4) sc__law_names.nd rfl rfl (xs := ["_law_k"]) (N' := ["_law_cell", "_law_letters", "_law_size", "_law_at", "_law_base", "_law_names_here", "~6", "_law_name", "_law_j", "_law_turn"]) rfl ⟨rfl, by decide +kernel, by decide +kernel, by dsimp only [X, cxOf, PyProof.Rows.envOfC]; decide +kernel, by decide +kernel, by dsimp only [X, cxOf]; decide +kernel, rfl⟩ (pi_range1 (by rfl) T.b_range (pa_1 (pv 2))) (fun _ _ _ _ _ => (pg_name (i := 0) (by dsimp only [X, cxComp]; decide +kernel) rfl (by first | exact Or.inl rfl | exact Or.inr rfl))) (fun _ _ _ _ _ => pts_nil) (fun _ _ _ _ _ => (pe_fn h__law_drawn hr.m (by rfl) pass_none (pa_c (pe_op op_add (pe_op op_fdiv (pv 1) (pe_op op_add (pv 0) pe_int)) (pv 0)) (pa_c pe_int (pa_c pe_int (pa_1 pe_int)))))))
      (pss_cons (ps_sl 5 sc__law_names.nd (pe_lst pa_nil))
      (pss_cons (ps_for own_def rfl (pi_range1 (by rfl) T.b_range (pa_1 pe_int)) (pg_name (i := 6) sc__law_names.nd rfl (by first | exact Or.inl rfl | exact Or.inr rfl))
      (pss_cons (ps_sl 7 sc__law_names.nd pe_str)
      (pss_cons (ps_for own_def rfl (pi_range1 (by rfl) T.b_range (pa_1 (pv 2))) (pg_name (i := 8) sc__law_names.nd rfl (by first | exact Or.inl rfl | exact Or.inr rfl))
      (pss_cons (ps_sl 9 sc__law_names.nd (pe_op op_mul (pe_op op_mul pe_int (pv 6)) (pe_callTy call_int1 (by rfl) T.b_int PyProof.Rows.Boot.«int» (pa_1 (pe_cmpR op_eq (pv 8) (pv 3) (nomark _))))))
      (pss_one (ps_sl 7 sc__law_names.nd (pe_op op_add_str (pv 7) (pe_x ix_str (pv 1) (pe_op op_mod (pe_op op_add (pe_x ix_list (pv 4) (pv 8)) (pv 9)) pe_int)))))))
      (pss_one (ps_expr (pe_bm PySem.F.plainAttrs_list PySem.F.slot_list_append PySem.F.type_list_append mt_append (pv 5) (pa_1 (pv 7))))))))
      (pss_cons (ps_if (pt_cmpR op_eq (pe_op op_mod (pe_op op_fdiv (pv 0) pe_int) pe_int) pe_int (nomark _)) (pss_one (ps_asg (pe_x ix_str (pv 1) (pe_op op_mod (pe_op op_add (pe_x ix_list (pv 4) pe_int) pe_int) pe_int)) (pg_sub (pv 5) pe_int set_list))) pss_nil)
      (pss_one (ps_ret (pv 5)))))))))), ?_⟩
  have z0 := Int.emod_nonneg c (show (8 : Int) ≠ 0 by decide)
  have z1 := Int.emod_lt_of_pos c (show (0 : Int) < 8 by decide)
  have zp : (0 : Int) < 1 + c % 8 := by omega
  obtain ⟨sz, esz⟩ : ∃ sz : Nat, 1 + c % 8 = (sz : Int) := ⟨(1 + c % 8).toNat, by omega⟩
  have al : (Str.ofString "abcdefghijklmnopqrstuvwxyz").length ≤ sizeLine := by rw [sizeLine_eq]; decide +kernel
  walk_at "go"
  intro u hu
  refine comp_range hu (fun i => .int (drawn (c / (0 + (i : Int) + 1) + (0 + (i : Int))) 69621 99989 26)) (fun _ => true) (by rw [sizeLine_eq]; omega) (fun i ys hi R r => r) (fun i ys hi _ R r => ?_) ?_
  · have cd : CDiv c (0 + (i : Int) + 1) := ⟨by omega, by omega⟩
    walk_at "go"
    exact r
  · have e : ((List.range (1 + c % 8).toNat).filter fun _ => true).map (fun i : Nat => V.int (drawn (c / (0 + (i : Int) + 1) + (0 + (i : Int))) 69621 99989 26)) = ((List.range (1 + c % 8).toNat).map fun i : Nat => drawn (c / (0 + (i : Int) + 1) + (0 + (i : Int))) 69621 99989 26).map V.int := by
      rw [List.filter_eq_self.mpr (fun _ _ => rfl), List.map_map]; rfl
    rw [e]
    have bl : ((List.range (1 + c % 8).toNat).map fun i : Nat => drawn (c / (0 + (i : Int) + 1) + (0 + (i : Int))) 69621 99989 26).length = (1 + c % 8).toNat := by rw [List.length_map, List.length_range]
    generalize ((List.range (1 + c % 8).toNat).map fun i : Nat => drawn (c / (0 + (i : Int) + 1) + (0 + (i : Int))) 69621 99989 26) = bs at bl
    generalize hh : upd _ u _ = H1
    obtain ⟨s1, e1⟩ := newO hu hh
    clear hh
    walk_at "go"
    intro nl hnl
    generalize hh : upd _ nl _ = H2
    obtain ⟨s2, e2⟩ := newO hnl hh
    clear hh
    walk_at "go"
    refine for_range (fun i σ H' => Bx (∃ (v6 v7 v8 v9 : Option V), σ = [some (.int c), some (.str (Str.ofString "abcdefghijklmnopqrstuvwxyz")), some (.int (1 + c % 8)), some (.int (c / 8 % (1 + c % 8))), some (.ref u), some (.ref nl), v6, v7, v8, v9] ∧ H' nl = some (.lst (((List.range i).map fun k => nmK bs (c / 8) (1 + c % 8) k (1 + c % 8).toNat).map V.str)) ∧ ∀ b u, H1 b = some u → H' b = some u)) ⟨_, _, _, _, rfl, e2, s2⟩ ?_ ?_
    · rintro i σ H3 hi ⟨v6, v7, v8, v9, rfl, h3, sm⟩
      have e3 := sm _ _ e1
      walk_at "go"
      refine for_range (fun j σ H' => Bx (H' = H3 ∧ ∃ (v8 v9 : Option V), σ = [some (.int c), some (.str (Str.ofString "abcdefghijklmnopqrstuvwxyz")), some (.int (1 + c % 8)), some (.int (c / 8 % (1 + c % 8))), some (.ref u), some (.ref nl), some (.int (0 + (i : Int))), some (.str (nmK bs (c / 8) (1 + c % 8) i j)), v8, v9])) ⟨rfl, _, _, rfl⟩ ?_ ?_
      · rintro j σ H4 hj ⟨rfl, v8, v9, rfl⟩
        have jl : j < bs.length := by rw [bl]; exact hj
        have ab : atI (bs.map V.int) (0 + (j : Int)) = some (.int (bs.getD j 0)) := by rw [Int.zero_add]; exact atI_nat (by rw [List.getElem?_map, List.getD_eq_getElem?_getD, List.getElem?_eq_getElem jl]; rfl)
        walk_at "go"
        refine .inr ⟨_, rfl, ?_⟩
        have ti : (if decide (V.int (0 + (j : Int)) = V.int (c / 8 % (1 + c % 8))) = true then (1 : Int) else 0) = turnI j (c / 8) (1 + c % 8) := rfl
        rw [ti]
        have cm : CMul (11 * (0 + (i : Int))) (turnI j (c / 8) (1 + c % 8)) := .inl ⟨by omega, by omega⟩
        have ac := abc_at (i := (bs.getD j 0 + 11 * (0 + (i : Int)) * turnI j (c / 8) (1 + c % 8)) % 26) (Int.emod_nonneg _ (by decide)) (Int.emod_lt_of_pos _ (by decide))
        have ac : atI (Str.ofString "abcdefghijklmnopqrstuvwxyz").cps.toList ((bs.getD j 0 + 11 * (0 + (i : Int)) * turnI j (c / 8) (1 + c % 8)) % 26) = some (chK bs (c / 8) (1 + c % 8) i j) := ac
        have cl : (nmK bs (c / 8) (1 + c % 8) i j).length + (⟨#[chK bs (c / 8) (1 + c % 8) i j]⟩ : Str).length ≤ sizeLine := by rw [sizeLine_eq, nmK_len]; show j + 1 ≤ _; omega
        have sc2 := nmK_succ (bs := bs) (d := c / 8) (z := 1 + c % 8) (k := i) (n := j)
        walk_at "go"
        rw [sc2]
        exact ⟨rfl, _, _, rfl⟩
      · rintro σ H4 ⟨rfl, v8, v9, rfl⟩
        have xz : (((List.range i).map fun k => nmK bs (c / 8) (1 + c % 8) k (1 + c % 8).toNat).map V.str).length < sizeLine := by rw [List.length_map, List.length_map, List.length_range, sizeLine_eq]; omega
        walk_at "go"
        refine ⟨_, _, _, _, rfl, ?_, fun b u' e' => ?_⟩
        · rw [upd_same, List.range_succ, List.map_append, List.map_append]; rfl
        · rw [upd_ne (ne_of_none e' hnl)]; exact sm _ _ e'
    · rintro σ H3 ⟨v6, v7, v8, v9, rfl, h3, sm⟩
      have hn0 : H nl = none := by
        cases e : H nl with
        | none => rfl
        | some u => rw [s1 _ _ e] at hnl; cases hnl
      have e3 := sm _ _ e1
      have h3 : H3 nl = some (.lst [.str (nmK bs (c / 8) (1 + c % 8) 0 (1 + c % 8).toNat), .str (nmK bs (c / 8) (1 + c % 8) 1 (1 + c % 8).toNat), .str (nmK bs (c / 8) (1 + c % 8) 2 (1 + c % 8).toNat)]) := h3
      have nn : ∀ a b : Nat, a < b → b < 3 → nmK bs (c / 8) (1 + c % 8) a (1 + c % 8).toNat ≠ nmK bs (c / 8) (1 + c % 8) b (1 + c % 8).toNat := fun a b h1 h2 => by
        rw [esz, Int.toNat_natCast]
        exact nmK_ne (by omega) h1 h2
      have n02 := nn 0 2 (by decide) (by decide)
      walk_at "go"
      refine iteI (fun z => ?_) (fun z => ?_)
      · have b0 : 0 < bs.length := by rw [bl]; omega
        have ab : atI (bs.map V.int) 0 = some (.int (bs.getD 0 0)) := atI_nat (j := 0) (by rw [List.getElem?_map, List.getD_eq_getElem?_getD, List.getElem?_eq_getElem b0]; rfl)
        have q0 := Int.emod_nonneg (bs.getD 0 0 + 1) (show (26 : Int) ≠ 0 by decide)
        have q1 := Int.emod_lt_of_pos (bs.getD 0 0 + 1) (show (0 : Int) < 26 by decide)
        have ac := abc_at q0 q1
        generalize hch : (97 + (bs.getD 0 0 + 1) % 26).toNat = ch at ac
        have x1 : ixN [V.str (nmK bs (c / 8) (1 + c % 8) 0 (1 + c % 8).toNat), V.str (nmK bs (c / 8) (1 + c % 8) 1 (1 + c % 8).toNat), V.str (nmK bs (c / 8) (1 + c % 8) 2 (1 + c % 8).toNat)].length 1 = some 1 := rfl
        have diff : ∀ a : Nat, a < 3 → a ≠ 1 → nmK bs (c / 8) (1 + c % 8) a (1 + c % 8).toNat ≠ ⟨#[ch]⟩ := fun a a3 a1 e' => by
          have l1 := congrArg Str.length e'
          rw [nmK_len] at l1
          have l1 : (1 + c % 8).toNat = 1 := l1
          rw [l1] at e'
          have e2 := congrArg (fun x : Str => x.cps.toList) e'
          rw [show (nmK bs (c / 8) (1 + c % 8) a 1).cps.toList = _ from nmK_list] at e2
          have e3 : [chK bs (c / 8) (1 + c % 8) a 0] = [ch] := e2
          have e4 := (List.cons.inj e3).1
          have t1 : turnI 0 (c / 8) (1 + c % 8) = 1 := by
            unfold turnI
            rw [show 1 + c % 8 = 1 by omega, Int.emod_one]
            rfl
          unfold chK at e4
          rw [t1] at e4
          have a0 := Int.emod_nonneg (bs.getD 0 0 + 11 * (0 + (a : Int)) * 1) (show (26 : Int) ≠ 0 by decide)
          omega
        walk_at "go"
        refine k nl (nmK bs (c / 8) (1 + c % 8) 0 (1 + c % 8).toNat) ⟨#[ch]⟩ (nmK bs (c / 8) (1 + c % 8) 2 (1 + c % 8).toNat) _ upd_same nmK_ok (one_ok (by omega)) nmK_ok ?_ (fun b u' e' => by rw [upd_ne (ne_of_none e' hn0)]; exact sm _ _ (s1 _ _ e')) hn0
        have d0 := diff 0 (by decide) (by decide)
        have d2 := diff 2 (by decide) (by decide)
        simp [d0, n02, Ne.symm d2]
      · walk_at "go"
        refine k nl _ _ _ _ h3 nmK_ok nmK_ok nmK_ok ?_ (fun b u' e' => sm _ _ (s1 _ _ e')) hn0
        have n01 := nn 0 1 (by decide) (by decide)
        have n12 := nn 1 2 (by decide) (by decide)
        simp [n01, n02, n12]
end
end K47

set_option hygiene false
set_option hygiene true
namespace K47
open PySem L2
def LfOk (nm : List Str) : Lf → Prop
  | .fr _ => True | .nu _ _ n => 0 ≤ n | .na _ x _ => x ∈ nm ∧ StrOk x
def spRow : Sp := fun vs H Q _ => ∃ (c k : Int) (pn : Addr) (x y z : Str), vs = [.int c, .int k, .ref pn] ∧ H pn = some (.lst [.str x, .str y, .str z]) ∧ StrOk x ∧ StrOk y ∧ StrOk z ∧ ∀ (q : Addr) (lf : Lf) (H' : Hp), Same H H' → RowO H' q lf → LfOk [x, y, z] lf → Q (.ref q) H'
section
variable (P : Program) {w : World} {K : PySem.W.Frag} {mg : Str → Option Value} (base : Heap) {a : Adr} {dvs : List V}
theorem ok__law_row (R : RawF K mg "_law_row" (top 9) ["_law_cell", "_law_k", "_law_names_here"] dvs) (T : Txt K mg a)
    (h__law_drawn : HasFn P w K mg base 1 "_law_drawn" ["_law_cell", "_law_by", "_law_prime", "_law_many_here"] (spDrawn) []) :
    HasFn P w K mg base 2 "_law_row" ["_law_cell", "_law_k", "_law_names_here"] (spRow) dvs := by
  refine R.ok sc__law_row (by walk_at "l0") ?_
  intro f cdv A outer s H vs Q E hr
  rintro ⟨c, kk, pn, x, y, z, rfl, hn, ox, oy, oz, k⟩
  refine L2.xl ?_
  intro X _ _
  let R8 : {t : TS // PSs X ((defBody (top 9)).drop 8) t} := ⟨_, (pss_cons (ps_if (PW.pt (pw_and (pt_cmpR op_eq (pe_fn h__law_drawn hr.m (by rfl) pass_def (pa_c (pv 0) (pa_c pe_int (pa_c pe_int (pa_1 pe_int))))) pe_int (nomark _)) (pw_and1 (pt_cmpR op_lt (pv 5) pe_int (nomark _))))) (pss_one (ps_ret (pe_tup (pa_c pe_str (pa_c (pv 7) (pa_c (pv 1) (pa_1 (pv 6)))))))) pss_nil)
      (pss_one (ps_ret (pe_tup (pa_c pe_str (pa_c (pe_op op_mod (pv 0) pe_int) (pa_c (pv 1) (pa_1 (pv 6)))))))))⟩
  let R6 : {t : TS // PSs X ((defBody (top 9)).drop 6) t} := ⟨_, (pss_cons (ps_sl 7 sc__law_row.nd (pe_x ix_list (pv 2) (pe_fn h__law_drawn hr.m (by rfl) pass_def (pa_c (pv 0) (pa_c pe_int (pa_c pe_int (pa_1 pe_int)))))))
      (pss_cons (ps_if (pt_cmpR op_gt (pv 5) pe_int (nomark _)) (pss_one (ps_sl 6 sc__law_row.nd (pe_tup (pa_c pe_str (pa_c (pv 4) (pa_c (pv 7) (pa_1 (pe_op op_mod (pv 3) pe_int)))))))) pss_nil)
      R8.2))⟩
  let R2 : {t : TS // PSs X ((defBody (top 9)).drop 2) t} := ⟨_, (pss_cons (ps_sl 4 sc__law_row.nd (pe_fn h__law_drawn hr.m (by rfl) pass_def (pa_c (pv 0) (pa_c pe_int (pa_c pe_int (pa_1 pe_int))))))
      (pss_cons (ps_sl 5 sc__law_row.nd (pe_fn h__law_drawn hr.m (by rfl) pass_def (pa_c (pv 0) (pa_c pe_int (pa_c pe_int (pa_1 pe_int))))))
      (pss_cons (ps_sl 6 sc__law_row.nd (pe_tup (pa_c pe_str (pa_1 (pv 4)))))
      (pss_cons (ps_if (pt_cmpR op_lt (pv 5) pe_int (nomark _)) (pss_one (ps_sl 6 sc__law_row.nd (pe_tup (pa_c (pe_x ix_list (pe_lst (pa_c pe_str (pa_1 pe_str))) (pe_op op_mod (pv 5) pe_int)) (pa_c (pv 4) (pa_1 (pv 3))))))) pss_nil)
      R6.2))))⟩
  refine ⟨_, (pss_cons (ps_sl 3 sc__law_row.nd (pe_fn h__law_drawn hr.m (by rfl) pass_def (pa_c (pv 0) (pa_c pe_int (pa_c pe_int (pa_1 pe_int))))))
      (pss_cons (ps_if (pt_cmpR op_eq (pe_fn h__law_drawn hr.m (by rfl) pass_def (pa_c (pv 0) (pa_c pe_int (pa_c pe_int (pa_1 pe_int))))) pe_int (nomark _)) (pss_one (ps_sl 3 sc__law_row.nd (pe_op op_add (pe_op op_pow pe_int pe_int) (pe_op op_mod (pv 0) (pe_op op_pow pe_int pe_int))))) pss_nil)
      R2.2)), ?_⟩
  have tail8 : ∀ (n r wy : Int) (l : Addr) (u : Str) (lf : Lf) (H' : Hp), Same H H' → H' l = some (.tup lf.row) → LfOk [x, y, z] lf → StrOk u → R8.1 { nx := fun x H' => Q V.non H', rt := Q } [some (.int c), some (.int kk), some (.ref pn), some (.int n), some (.int r), some (.int wy), some (.ref l), some (.str u)] H' := by
    intro n r wy l u lf H' s1 hl lo ou
    have w1 : StrOk "share" := by unfold StrOk; decide +kernel
    have w2 : StrOk "task" := by unfold StrOk; decide +kernel
    walk_at "go"
    refine iteI (fun c1 => ?_) (fun c1 => ?_)
    · walk_at "go"
      refine iteD (fun c2 => ?_) (fun c2 => ?_)
      · walk_at "go"
        intro q hq
        generalize hh : upd _ q _ = H2
        obtain ⟨s2, e2⟩ := newO hq hh
        clear hh
        walk_at "go"
        exact k q lf H2 (s1.trans s2) ⟨"share", .inr u, kk, l, e2, s2 _ _ hl, w1, fun x e => by cases e; exact ou⟩ lo
      · walk_at "go"
        intro q hq
        generalize hh : upd _ q _ = H2
        obtain ⟨s2, e2⟩ := newO hq hh
        clear hh
        walk_at "go"
        exact k q lf H2 (s1.trans s2) ⟨"task", .inl (c % 5), kk, l, e2, s2 _ _ hl, w2, fun x e => by cases e⟩ lo
    · walk_at "go"
      intro q hq
      generalize hh : upd _ q _ = H2
      obtain ⟨s2, e2⟩ := newO hq hh
      clear hh
      walk_at "go"
      exact k q lf H2 (s1.trans s2) ⟨"task", .inl (c % 5), kk, l, e2, s2 _ _ hl, w2, fun x e => by cases e⟩ lo
  have tail6 : ∀ (n r wy : Int) (l : Addr) (lf : Lf) (H' : Hp), 0 ≤ n → Same H H' → H' l = some (.tup lf.row) → LfOk [x, y, z] lf → R6.1 { nx := fun x H' => Q V.non H', rt := Q } [some (.int c), some (.int kk), some (.ref pn), some (.int n), some (.int r), some (.int wy), some (.ref l), none] H' := by
    intro n r wy l lf H' n0 s1 hl lo
    have hn1 := s1 _ _ hn
    have d0 := drawn_0 c 16807 99971 (m := 3) (by decide)
    have d1 := drawn_lt c 16807 99971 (m := 3) (by decide)
    obtain ⟨u, au, mu, ou⟩ : ∃ u : Str, atI [V.str x, .str y, .str z] (drawn c 16807 99971 3) = some (.str u) ∧ u ∈ [x, y, z] ∧ StrOk u := by
      have : drawn c 16807 99971 3 = 0 ∨ drawn c 16807 99971 3 = 1 ∨ drawn c 16807 99971 3 = 2 := by omega
      rcases this with e | e | e <;> rw [e]
      · exact ⟨x, rfl, by simp, ox⟩
      · exact ⟨y, rfl, by simp, oy⟩
      · exact ⟨z, rfl, by simp, oz⟩
    walk_at "go"
    refine iteD (fun c1 => ?_) (fun c1 => ?_)
    · walk_at "go"
      intro l2 hl2
      generalize hh : upd _ l2 _ = H2
      obtain ⟨s2, e2⟩ := newO hl2 hh
      clear hh
      exact tail8 n r wy l2 u (.na r u (n % 64)) H2 (s1.trans s2) e2 ⟨mu, ou⟩ ou
    · exact tail8 n r wy l u lf H' s1 hl lo ou
  have tail2 : ∀ (n : Int), 0 ≤ n → R2.1 { nx := fun x H' => Q V.non H', rt := Q } [some (.int c), some (.int kk), some (.ref pn), some (.int n), none, none, none, none] H := by
    intro n n0
    walk_at "go"
    intro l0 hl0
    generalize hh : upd _ l0 _ = H1
    obtain ⟨s1, e1⟩ := newO hl0 hh
    clear hh
    walk_at "go"
    refine iteD (fun c1 => ?_) (fun c1 => ?_)
    · have m2 : drawn c 48271 99991 7 % 2 = 0 ∨ drawn c 48271 99991 7 % 2 = 1 := by omega
      obtain ⟨o, eo⟩ : ∃ o : Bool, atI [V.str "held", .str "out"] (drawn c 48271 99991 7 % 2) = some (.str (if o then "out" else "held")) := by
        rcases m2 with e | e <;> rw [e]
        · exact ⟨false, rfl⟩
        · exact ⟨true, rfl⟩
      walk_at "go"
      intro li hli
      generalize hh : upd _ li _ = H2
      obtain ⟨s2, e2⟩ := newO hli hh
      clear hh
      walk_at "go"
      intro l2 hl2
      generalize hh : upd _ l2 _ = H3
      obtain ⟨s3, e3⟩ := newO hl2 hh
      clear hh
      exact tail6 n _ _ l2 (.nu o (drawn c 30269 99923 4) n) H3 n0 ((s1.trans s2).trans s3) e3 n0
    · exact tail6 n _ _ l0 (.fr (drawn c 30269 99923 4)) H1 n0 s1 e1 trivial
  have d0 := drawn_0 c 40692 99929 (m := 7) (by decide)
  walk_at "go"
  refine iteI (fun c1 => ?_) (fun c1 => ?_)
  · have m0 : 0 ≤ c % 10 ^ (60 : Int).toNat := Int.emod_nonneg _ (by decide)
    have p0 : (0 : Int) ≤ 10 ^ (30 : Int).toNat := by decide
    have pm : (0 : Int) < 10 ^ (60 : Int).toNat := by decide
    have sm : 0 ≤ (10 : Int) ^ (30 : Int).toNat + c % 10 ^ (60 : Int).toNat := Int.add_nonneg p0 m0
    repeat (first | exact tail2 (10 ^ (30 : Int).toNat + c % 10 ^ (60 : Int).toNat) sm | walk_at "i2")
  · exact tail2 _ d0
end
end K47

set_option hygiene false
set_option hygiene true
namespace K47
open PySem L2
theorem zipf {α β : Type} (p : β → Bool) : ∀ {xs : List α} {fs : List β}, xs.length = fs.length → ((xs.zip fs).filter fun z => p z.2).map (·.2) = fs.filter p
  | [], [], _ => rfl
  | [], _ :: _, h => by cases h
  | _ :: _, [], h => by cases h
  | x :: xs, f :: fs, h => by
    rw [List.zip_cons_cons, List.filter_cons, List.filter_cons]
    cases p f
    · exact zipf p (Nat.succ.inj h)
    · rw [if_pos rfl, if_pos rfl, List.map_cons, zipf p (Nat.succ.inj h)]
theorem comp_listZ {α : Type} {K : PySem.W.Frag} {l acc : Addr} {xs : List V} {fs : List α} {k : Nat} {tc : TT} {te : TE} {σ : St} {H1 : Hp} {QH : Hp → Prop} (hacc : H1 acc = none) (g : V → α → V) (p : α → Bool) (hl : SqL K H1 l xs) (hz : xs.length = fs.length) (hn : xs.length < sizeLine)
    (hc : ∀ (i : Nat) (x : V) (y : α) (ys : List V), xs[i]? = some x → fs[i]? = some y → ∀ R : Bool → Hp → Prop, R (p y) (upd H1 acc (.lst ys)) → tc (some x :: σ) (upd H1 acc (.lst ys)) R)
    (he : ∀ (i : Nat) (x : V) (y : α) (ys : List V), xs[i]? = some x → fs[i]? = some y → p y = true → ∀ R : VK, R (g x y) (upd H1 acc (.lst ys)) → te (some x :: σ) (upd H1 acc (.lst ys)) R)
    (q : QH (upd H1 acc (.lst (((xs.zip fs).filter fun z => p z.2).map fun z => g z.1 z.2)))) (hk : k = 1 := by rfl) : ∃ (W : Nat → List V → Hp → Prop) (n' : Nat), W 0 [] (upd H1 acc (.lst [])) ∧
  ∀ i ys H2, W i ys H2 → H2 acc = some (.lst ys) ∧ ys.length < sizeLine ∧ ((i = n' ∧ (Itl K l).stop i H2 ∧ QH H2) ∨ (i < n' ∧ (Itl K l).go i H2 ∧ ∀ x H3, (Itl K l).yld i H2 x H3 → ∀ τ : St, τ.length = k → (gName 0) x (τ ++ σ) H3 fun τ2 H4 =>
    (∃ τ' : St, τ'.length = k ∧ τ2 = τ' ++ σ) ∧ tc τ2 H4 fun b H5 => if b = true then te τ2 H5 fun v H6 => H6 acc = some (.lst ys) ∧ W (i + 1) (ys ++ [v]) (upd H6 acc (.lst (ys ++ [v]))) else W (i + 1) ys H5)) := by
  subst hk
  have zl : (xs.zip fs).length = xs.length := by rw [List.length_zip]; omega
  refine ⟨fun i ys H2 => i ≤ xs.length ∧ ys = (((xs.zip fs).take i).filter fun z => p z.2).map (fun z => g z.1 z.2) ∧ H2 = upd H1 acc (.lst ys), xs.length, ⟨Nat.zero_le _, rfl, rfl⟩, ?_⟩
  rintro i ys H2 ⟨hi, hys, rfl⟩
  have hl2 : ys.length < sizeLine := by
    rw [hys, List.length_map]
    have := List.length_filter_le (fun z : V × α => p z.2) ((xs.zip fs).take i)
    rw [List.length_take] at this
    omega
  have sq : SqL K (upd H1 acc (.lst ys)) l xs := (same_upd hacc).seq hl
  refine ⟨upd_same, hl2, ?_⟩
  by_cases hlt : i < xs.length
  · refine .inr ⟨hlt, ⟨xs, xs[i], sq, by simp [hlt]⟩, ?_⟩
    rintro x H3 ⟨rfl, hx⟩ τ hτ
    have hx := hx xs sq
    obtain ⟨t, rfl⟩ : ∃ t, τ = [t] := by
      match τ, hτ with
      | [t], _ => exact ⟨t, rfl⟩
    refine ⟨⟨[some x], rfl, rfl⟩, ?_⟩
    show tc (some x :: σ) _ _
    have hy : fs[i]? = some fs[i] := List.getElem?_eq_getElem (by omega)
    refine hc i x fs[i] ys hx hy _ ?_
    have rs : (xs.zip fs).take (i + 1) = (xs.zip fs).take i ++ [(x, fs[i])] := by
      have : (xs.zip fs)[i]? = some (x, fs[i]) := by rw [List.getElem?_zip_eq_some]; exact ⟨hx, hy⟩
      rw [List.take_add_one, this]
      rfl
    cases hp : p fs[i] with
    | true =>
      refine iteT (he i x _ ys hx hy hp _ ⟨upd_same, hlt, ?_, upd_upd⟩)
      rw [rs, List.filter_append, List.map_append, hys]
      simp [List.filter, hp]
    | false =>
      refine iteF ⟨hlt, ?_, rfl⟩
      rw [rs, List.filter_append, List.map_append, hys]
      simp [List.filter, hp]
  · have e : i = xs.length := by omega
    subst e
    refine .inl ⟨rfl, ⟨xs, sq, Nat.le_refl _⟩, ?_⟩
    have := q
    rw [← zl, List.take_length] at hys
    rw [← hys] at this
    exact this
def KyOf (kd : Str) (k : Key) : Prop := ((kd = "held" ∨ kd = "out") ∧ ∃ i, k = Sum.inl i) ∨ (kd = "named" ∧ ∃ x, k = Sum.inr x)
theorem KyOf.nf {kd : Str} {k : Key} (h : KyOf kd k) : kd ≠ "fresh" := by
  rcases h with ⟨h | h, _⟩ | ⟨h, _⟩ <;> rw [h] <;> decide +kernel
theorem KyOf.scal {kd : Str} {k j : Key} (h : KyOf kd k) {g : Lf} (e : g.kd = kd) (ek : g.ky = some j) : L2.scal (kV j) (kV k) = true := by
  rcases h with ⟨h, i, rfl⟩ | ⟨h, i, rfl⟩
  · obtain ⟨n, rfl⟩ := kd_inl (by rw [e]; exact h) ek
    rfl
  · obtain ⟨r, x, m, _, rfl⟩ := kd_inr (by rw [e]; exact h) ek
    rfl
theorem kV_inj {j k : Key} (h : kV j = kV k) : j = k := by
  cases j <;> cases k <;> first | (cases h; rfl) | cases h
def spMany : Sp := fun vs H Q _ => ∃ (p : Addr) (kd : Str) (ky : Key) (x : V) (qs : List Addr) (fs : List Lf), vs = [.ref p, .str kd, x] ∧ x = kV ky ∧ H p = some (.lst (qs.map V.ref)) ∧ RowsA H qs fs ∧ fs.length < 70 ∧ KyOf kd ky ∧ ∀ H' : Hp, Same H H' → Q (.int (cnt fs kd ky)) H'
section
variable (P : Program) {w : World} {K : PySem.W.Frag} {mg : Str → Option Value} (base : Heap) {a : Adr} {dvs : List V}
theorem ok__law_many (R : RawF K mg "_law_many" (top 10) ["_law_rows", "_law_kind", "_law_one"] dvs) (T : Txt K mg a) :
    HasFn P w K mg base 1 "_law_many" ["_law_rows", "_law_kind", "_law_one"] (spMany) dvs := by
  refine R.ok sc__law_many (by walk_at "l0") ?_
  intro f cdv A outer s H vs Q E hr
  rintro ⟨p, kd, ky, xx, qs, fs, rfl, rfl, hp, ra, fl, ko, k⟩
  refine L2.xl ?_
  intro X _ _
  refine ⟨_, (pss_one (ps_ret (pe_callB call_len_seq (by rfl) T.b_len PySem.boot_len (pa_1 (pe_comp (xs := ["_law_place"]) (N' := ["_law_rows", "_law_kind", "_law_one"]) rfl ⟨rfl, by decide +kernel, by decide +kernel, by dsimp only [X, cxOf, PyProof.Rows.envOfC]; decide +kernel, by decide +kernel, by dsimp only [X, cxOf]; decide +kernel, rfl⟩ (pi_list (pv 0)) (fun _ _ _ _ _ => (pg_name (i := 0) (by dsimp only [X, cxComp]; decide +kernel) rfl (by first | exact Or.inl rfl | exact Or.inr rfl))) (fun _ _ _ _ _ => (pts_one (PW.pt (pw_and (pt_cmpR op_eq (pe_x (ix_tupK (K := K) rfl) (pe_x (ix_tupK (K := K) rfl) (pv 0) pe_int) pe_int) (pv 2) (nomark _)) (pw_and1 (pt_cmpR op_eq (pe_x (ix_tupK (K := K) rfl) (pe_x (ix_tupK (K := K) rfl) (pv 0) pe_int) pe_int) (pv 3) (nomark _))))))) (fun _ _ _ _ _ => (pv 0))))))), ?_⟩
  walk_at "go"
  intro u hu
  refine comp_listZ (fs := fs) hu (fun x _ => x) (nms kd ky) (SqL.of hp) (by rw [List.length_map]; exact ra.1) (by rw [List.length_map, ra.1, sizeLine_eq]; omega) (fun i x g ys hx hg R r => ?_) (fun i x g ys hx hg _ R r => ?_) ?_
  · obtain ⟨q, g', rfl, eg, ro⟩ := ra.at hx
    rw [hg] at eg
    cases eg
    obtain ⟨w', g1, kk, l, q1, q2, _⟩ := ro.same (same_upd (u := .lst ys) hu)
    have a3 : atI [V.str w', kV g1, .int kk, .ref l] 3 = some (.ref l) := rfl
    have a0 := g.at0
    walk_at "go"
    refine iteD (fun c => ?_) (fun c => ?_)
    · have c : g.kd = kd := V.str.inj c
      obtain ⟨j, ek⟩ := Lf.some (f := g) (by rw [c]; exact ko.nf)
      have a2 := Lf.at2 ek
      have sc := ko.scal c ek
      walk_at "go"
      have en : nms kd ky g = decide (kV j = kV ky) := by
        unfold nms
        rw [decide_eq_true c, Bool.true_and, ek]
        exact decide_eq_decide.mpr ⟨fun h => by rw [Option.some.inj h], fun h => by rw [kV_inj h]⟩
      rw [en] at r
      exact r
    · have en : nms kd ky g = false := by
        unfold nms
        rw [decide_eq_false (fun h => c (by rw [h]))]; rfl
      rw [en] at r
      exact r
  · walk_at "go"
    exact r
  · have ln : ((((qs.map V.ref).zip fs).filter fun z => nms kd ky z.2).map fun z => z.1).length = (fs.filter (nms kd ky)).length := by
      have := congrArg List.length (zipf (nms kd ky) (xs := qs.map V.ref) (fs := fs) (by rw [List.length_map]; exact ra.1))
      rw [List.length_map] at this
      rw [List.length_map]; exact this
    generalize (((qs.map V.ref).zip fs).filter fun z => nms kd ky z.2).map (fun z => z.1) = ys at ln
    have k := k _ (same_upd (u := .lst ys) hu)
    unfold cnt at k
    rw [← ln] at k
    walk_at "go"
    exact k
end
end K47

set_option hygiene false
set_option hygiene true
namespace K47
open PySem L2
theorem comp_rangeI {lo : Int} {n k : Nat} {acc : Addr} {te : TE} {σ : St} {H1 : Hp} {QH : Hp → Prop} (I : Nat → List V → Hp → Prop) (hn : n < sizeLine) (h0 : I 0 [] (upd H1 acc (.lst [])))
    (sm : ∀ i ys H2, I i ys H2 → H2 acc = some (.lst ys) ∧ ys.length = i)
    (he : ∀ (i : Nat) (ys : List V) (H2 : Hp), i < n → I i ys H2 → ∀ R : VK, (∀ v H6, H6 acc = some (.lst ys) → I (i + 1) (ys ++ [v]) (upd H6 acc (.lst (ys ++ [v]))) → R v H6) → te (some (.int (lo + i)) :: σ) H2 R)
    (q : ∀ ys H2, I n ys H2 → QH H2) (hk : k = 1 := by rfl) : ∃ (W : Nat → List V → Hp → Prop) (n' : Nat), W 0 [] (upd H1 acc (.lst [])) ∧
  ∀ i ys H2, W i ys H2 → H2 acc = some (.lst ys) ∧ ys.length < sizeLine ∧ ((i = n' ∧ (Itr lo n).stop i H2 ∧ QH H2) ∨ (i < n' ∧ (Itr lo n).go i H2 ∧ ∀ x H3, (Itr lo n).yld i H2 x H3 → ∀ τ : St, τ.length = k → (gName 0) x (τ ++ σ) H3 fun τ2 H4 =>
    (∃ τ' : St, τ'.length = k ∧ τ2 = τ' ++ σ) ∧ tTrue τ2 H4 fun b H5 => if b = true then te τ2 H5 fun v H6 => H6 acc = some (.lst ys) ∧ W (i + 1) (ys ++ [v]) (upd H6 acc (.lst (ys ++ [v]))) else W (i + 1) ys H5)) := by
  subst hk
  refine ⟨fun i ys H2 => i ≤ n ∧ I i ys H2, n, ⟨Nat.zero_le _, h0⟩, ?_⟩
  rintro i ys H2 ⟨hi, hI⟩
  obtain ⟨m1, m3⟩ := sm i ys H2 hI
  refine ⟨m1, by omega, ?_⟩
  by_cases hlt : i < n
  · refine .inr ⟨hlt, hlt, ?_⟩
    rintro x H3 ⟨rfl, hx⟩ τ hτ
    subst hx
    obtain ⟨t, rfl⟩ : ∃ t, τ = [t] := by
      match τ, hτ with
      | [t], _ => exact ⟨t, rfl⟩
    refine ⟨⟨[some (.int (lo + i))], rfl, rfl⟩, ?_⟩
    unfold tTrue
    simp only [if_true]
    exact he i ys _ hlt hI _ fun v H6 e1 e2 => ⟨e1, hlt, e2⟩
  · have e : i = n := by omega
    subst e
    exact .inl ⟨rfl, Nat.le_refl _, q ys H2 hI⟩
theorem at4 (x a b c d : Int) : ∃ n, atI [V.int a, .int b, .int c, .int d] (x % 4) = some (.int n) := by
  have : x % 4 = 0 ∨ x % 4 = 1 ∨ x % 4 = 2 ∨ x % 4 = 3 := by omega
  rcases this with e | e | e | e <;> rw [e] <;> exact ⟨_, rfl⟩
def spCnts : Sp := fun vs H Q _ => ∃ (p : Addr) (kd : Str) (c : Int) (qs : List Addr) (fs : List Lf), vs = [.ref p, .str kd, .int c] ∧ H p = some (.lst (qs.map V.ref)) ∧ RowsA H qs fs ∧ fs.length < 70 ∧ (kd = "held" ∨ kd = "out") ∧ ∀ (q : Addr) (ns : List Int) (H' : Hp), Same H H' → H q = none → H' q = some (.lst (ns.map V.int)) → ns.length < 20 → Q (.ref q) H'
section
variable (P : Program) {w : World} {K : PySem.W.Frag} {mg : Str → Option Value} (base : Heap) {a : Adr} {dvs : List V}
theorem ok__law_counts (R : RawF K mg "_law_counts" (top 11) ["_law_rows", "_law_kind", "_law_cell"] dvs) (T : Txt K mg a)
    (h__law_many : HasFn P w K mg base 1 "_law_many" ["_law_rows", "_law_kind", "_law_one"] (spMany) [])
    (h__law_drawn : HasFn P w K mg base 1 "_law_drawn" ["_law_cell", "_law_by", "_law_prime", "_law_many_here"] (spDrawn) []) :
    HasFn P w K mg base 2 "_law_counts" ["_law_rows", "_law_kind", "_law_cell"] (spCnts) dvs := by
  refine R.ok sc__law_counts (by walk_at "l0") ?_
  intro f cdv A outer s H vs Q E hr
  rintro ⟨p, kd, c, qs, fs, rfl, hp, ra, fl, ko, k⟩
  refine L2.xl ?_
  intro X _ _
  refine ⟨_, (pss_cons (ps_setC (j := 3) sc__law_counts.nd rfl rfl (xs := ["_law_number"]) (N' := ["_law_rows", "_law_kind", "_law_cell", "_law_counts_here", "_law_k", "_law_at"]) rfl ⟨rfl, by decide +kernel, by decide +kernel, by dsimp only [X, cxOf, PyProof.Rows.envOfC]; decide +kernel, by decide +kernel, by dsimp only [X, cxOf]; decide +kernel, rfl⟩ (pi_range1 (by rfl) T.b_range (pa_1 (pe_op op_mod (pv 2) pe_int))) (fun _ _ _ _ _ => (pg_name (i := 0) (by dsimp only [X, cxComp]; decide +kernel) rfl (by first | exact Or.inl rfl | exact Or.inr rfl))) (fun _ _ _ _ _ => pts_nil) (fun _ _ _ _ _ => (pe_fn h__law_many hr.m (by rfl) pass_none (pa_c (pv 1) (pa_c (pv 2) (pa_1 (pv 0)))))))
      (pss_cons (ps_for own_def rfl (pi_range1 (by rfl) T.b_range (pa_1 (pe_op op_mod (pe_op op_fdiv (pv 2) pe_int) pe_int))) (pg_name (i := 4) sc__law_counts.nd rfl (by first | exact Or.inl rfl | exact Or.inr rfl))
      (pss_one (ps_if (pt_cmpR (op_neD hr.units) (pv 3) (pe_lst pa_nil) (nomark _)) (pss_cons (ps_sl 5 sc__law_counts.nd (pe_fn h__law_drawn hr.m (by rfl) pass_def (pa_c (pe_op op_add (pe_op op_fdiv (pv 2) (pe_op op_add (pv 4) pe_int)) (pv 4)) (pa_c pe_int (pa_c pe_int (pa_1 (pe_callB call_len_seq (by rfl) T.b_len PySem.boot_len (pa_1 (pv 3)))))))))
      (pss_one (ps_asg (pe_x ix_list (pe_lst (pa_c pe_int (pa_c (pe_op op_add (pe_x ix_list (pv 3) (pv 5)) pe_int) (pa_c (pe_callB (call_max2 rfl) (by rfl) T.b_max PyProof.Rows.Boot.«max» (pa_c pe_int (pa_1 (pe_op op_sub (pe_x ix_list (pv 3) (pv 5)) pe_int)))) (pa_1 (pe_op op_add (pe_op op_pow pe_int pe_int) (pv 5))))))) (pe_op op_mod (pe_op op_fdiv (pv 2) (pe_op op_mul pe_int (pe_op op_add (pv 4) pe_int))) pe_int)) (pg_sub (pv 3) (pv 5) set_list)))) pss_nil)))
      (pss_one (ps_ret (pv 3))))), ?_⟩
  have z0 := Int.emod_nonneg c (show (10 : Int) ≠ 0 by decide)
  have z1 := Int.emod_lt_of_pos c (show (0 : Int) < 10 by decide)
  walk_at "go"
  intro u hu
  refine comp_rangeI (fun i ys H2 => H2 u = some (.lst ys) ∧ Same H H2 ∧ ∃ ns : List Int, ys = ns.map V.int ∧ ns.length = i) (by rw [sizeLine_eq]; omega) ⟨upd_same, same_upd hu, [], rfl, rfl⟩ (fun i ys H2 y => ⟨y.1, by obtain ⟨_, _, ns, rfl, e⟩ := y; rw [List.length_map]; exact e⟩) (fun i ys H2 hi y R r => ?_) (fun ys H2 y => ?_)
  · obtain ⟨y1, y2, ns, rfl, yl⟩ := y
    have ek : V.int (0 + (i : Int)) = kV (Sum.inl (0 + (i : Int))) := rfl
    have ko2 : KyOf kd (Sum.inl (0 + (i : Int))) := .inl ⟨ko, _, rfl⟩
    have p2 := y2 _ _ hp
    have ra2 := ra.same y2
    walk_at "go"
    intro H3 s3
    refine r _ H3 (s3 _ _ y1) ⟨upd_same, fun b x e => ?_, ns ++ [cnt fs kd (Sum.inl (0 + (i : Int)))], by rw [List.map_append]; rfl, by rw [List.length_append, yl]; rfl⟩
    rw [upd_ne (ne_of_none e hu)]
    exact s3 _ _ (y2 _ _ e)
  · obtain ⟨y1, y2, ns, rfl, yl⟩ := y
    walk_at "go"
    refine for_range (fun i σ H' => Bx (∃ (v4 v5 : Option V) (ms : List Int), σ = [some (.ref p), some (.str kd), some (.int c), some (.ref u), v4, v5] ∧ H' u = some (.lst (ms.map V.int)) ∧ ms.length = ns.length ∧ Same H H')) ⟨_, _, ns, rfl, y1, rfl, y2⟩ ?_ ?_
    · rintro i σ H3 hi ⟨v4, v5, ms, rfl, m1, ml, s3⟩
      walk_at "go"
      intro z hz
      generalize hh : upd _ z _ = H4
      obtain ⟨s4, e4⟩ := newO hz hh
      clear hh
      have m4 := s4 _ _ m1
      refine rNeD_ints (ns := ms) (ms := []) (SqL.of m4) (SqL.of e4) ?_
      walk_at "go"
      refine iteB (fun c1 => ?_) (fun c1 => ?_)
      · have mp : (0 : Int) < ((ms.map V.int).length : Int) := by
          cases ms with
          | nil => cases c1
          | cons x l => rw [List.map_cons, List.length_cons]; omega
        have cd1 : CDiv c (0 + (i : Int) + 2) := ⟨by omega, by omega⟩
        have cd2 : CDiv c (40 * (0 + (i : Int) + 1)) := ⟨by omega, by omega⟩
        have cp : CPow 10 40 := ⟨by decide, by decide, by decide⟩
        have d0 := drawn_0 (c / (0 + (i : Int) + 2) + (0 + (i : Int))) 39373 99961 mp
        have d1 := drawn_lt (c / (0 + (i : Int) + 2) + (0 + (i : Int))) 39373 99961 mp
        have d2 : drawn (c / (0 + (i : Int) + 2) + (0 + (i : Int))) 39373 99961 ((ms.map V.int).length : Int) < ms.length := by rw [List.length_map] at *; exact d1
        have a1 := atI_getD d0 d2
        have x1 := ixN_map d0 d2
        walk_at "go"
        generalize drawn (c / (0 + (i : Int) + 2) + (0 + (i : Int))) 39373 99961 ((ms.map V.int).length : Int) = dr at *
        intro z2 hz2
        generalize hh : upd _ z2 _ = H5
        obtain ⟨s5, e5⟩ := newO hz2 hh
        clear hh
        obtain ⟨n4, a4⟩ := at4 (c / (40 * (0 + (i : Int) + 1))) 0 (ms.getD dr.toNat 0 + 1) (if ms.getD dr.toNat 0 - 1 > 0 then ms.getD dr.toNat 0 - 1 else 0) (10 ^ (40 : Int).toNat + dr)
        have m5 := s5 _ _ m4
        walk_at "go"
        refine ⟨_, _, ms.set dr.toNat n4, rfl, ?_, by rw [List.length_set]; exact ml, fun b x e => ?_⟩
        · rw [upd_same, List.map_set]
        · rw [upd_ne (ne_of_none e hu)]; exact s5 _ _ (s4 _ _ (s3 _ _ e))
      · walk_at "go"
        exact ⟨_, _, ms, rfl, m4, ml, s3.trans s4⟩
    · rintro σ H3 ⟨v4, v5, ms, rfl, m1, ml, s3⟩
      walk_at "go"
      exact k u ms H3 s3 hu m1 (by omega)
end
end K47

set_option hygiene false
set_option hygiene true
namespace K47
open PySem L2
def leT (x y : Str) : Prop := ¬ y.cps.toList < x.cps.toList
theorem leT_anti {x y : Str} (h1 : leT x y) (h2 : leT y x) : x = y := by
  have a1 : x.cps.toList ≤ y.cps.toList := h1
  have a2 : y.cps.toList ≤ x.cps.toList := h2
  have e := List.le_antisymm a1 a2
  cases x; cases y
  congr 1
  exact Array.toList_inj.mp e
theorem kle_anti : ∀ {x y : Key}, kle x y → kle y x → x = y
  | .inl _, .inl _, h1, h2 => congrArg Sum.inl (Int.le_antisymm h1 h2)
  | .inr _, .inr _, h1, h2 => congrArg Sum.inr (leT_anti h1 h2)
  | .inl _, .inr _, h1, _ => h1.elim
  | .inr _, .inl _, h1, _ => h1.elim
theorem Srt.one {k1 k2 : List Key} {P : Key → Prop} (h1 : Srt k1 P) (h2 : Srt k2 P) : k1 = k2 :=
  List.Perm.eq_of_pairwise (fun _ _ _ _ a b => kle_anti a b) h1.pw h2.pw ((List.perm_ext_iff_of_nodup h1.nd h2.nd).mpr fun k => (h1.mem k).trans (h2.mem k).symm)
theorem at7 (x a b c d e f g : Int) (h : ¬ x % 8 = 0) : ∃ n, atI [V.int a, .int b, .int c, .int d, .int e, .int f, .int g] (x % 8 - 1) = some (.int n) := by
  have : x % 8 = 1 ∨ x % 8 = 2 ∨ x % 8 = 3 ∨ x % 8 = 4 ∨ x % 8 = 5 ∨ x % 8 = 6 ∨ x % 8 = 7 := by omega
  rcases this with e | e | e | e | e | e | e <;> rw [e] <;> exact ⟨_, rfl⟩
theorem ShL.snoc {H : Hp} {p t : Addr} {us : List (Str × Int × Int)} {u : Str × Int × Int} {qs : List Addr} (n1 : qs.length = us.length) (n2 : ∀ (i : Nat) q u, qs[i]? = some q → us[i]? = some u → ShO H q u) (hp : H p = some (.lst (qs.map V.ref ++ [.ref t]))) (ht : ShO H t u) : ShL H p (us ++ [u]) := by
  refine ⟨qs ++ [t], by rw [List.map_append]; exact hp, by simp [n1], fun i q u' e1 e2 => ?_⟩
  by_cases c : i < qs.length
  · rw [List.getElem?_append_left c] at e1
    rw [List.getElem?_append_left (by omega)] at e2
    exact n2 i q u' e1 e2
  · rw [List.getElem?_append_right (by omega)] at e1
    rw [List.getElem?_append_right (by omega)] at e2
    cases h : i - qs.length with
    | zero =>
      rw [h] at e1
      rw [show i - us.length = 0 by omega] at e2
      cases e1; cases e2; exact ht
    | succ n => rw [h] at e1; cases e1
def spUses : Sp := fun vs H Q _ => ∃ (p pn : Addr) (c : Int) (qs : List Addr) (fs : List Lf) (nm : List Str), vs = [.ref p, .ref pn, .int c] ∧ H p = some (.lst (qs.map V.ref)) ∧ RowsA H qs fs ∧ fs.length < 70 ∧ H pn = some (.lst (nm.map V.str)) ∧ nm.length = 3 ∧ nm.Nodup ∧ ∀ (q : Addr) (sh : List (Str × Int × Int)) (H' : Hp), Same H H' → H q = none → ShL H' q sh → sh.length ≤ 3 → (sh.map (·.1)).Nodup → (∀ t ∈ sh, t.1 ∈ nm) → Q (.ref q) H'
section
variable (P : Program) {w : World} {K : PySem.W.Frag} {mg : Str → Option Value} (base : Heap) {a : Adr} {dvs : List V}
theorem ok__law_uses (R : RawF K mg "_law_uses" (top 12) ["_law_rows", "_law_names_here", "_law_cell"] dvs) (T : Txt K mg a)
    (h__law_many : HasFn P w K mg base 1 "_law_many" ["_law_rows", "_law_kind", "_law_one"] (spMany) []) :
    HasFn P w K mg base 2 "_law_uses" ["_law_rows", "_law_names_here", "_law_cell"] (spUses) dvs := by
  refine R.ok sc__law_uses (by walk_at "l0") ?_
  intro f cdv A outer s H vs Q E hr
  rintro ⟨p, pn, c, qs, fs, nm, rfl, hp, ra, fl, hn, n3, nd, k⟩
  refine L2.xl ?_
  intro X _ _
  refine ⟨_, (pss_cons (ps_sl 3 sc__law_uses.nd (pe_lst pa_nil))
      (pss_cons (ps_for own_def rfl (pi_range1 (by rfl) T.b_range (pa_1 pe_int)) (pg_name (i := 4) sc__law_uses.nd rfl (by first | exact Or.inl rfl | exact Or.inr rfl))
      (pss_cons (ps_sl 5 sc__law_uses.nd (pe_x ix_list (pe_callB call_sortedLS (by rfl) T.b_sorted PyProof.Rows.Boot.«sorted» (pa_1 (pv 1))) (pv 4)))
      (pss_cons (ps_sl 6 sc__law_uses.nd (pe_fn h__law_many hr.m (by rfl) pass_def (pa_c (pv 0) (pa_c pe_str (pa_1 (pv 5))))))
      (pss_cons (ps_sl 7 sc__law_uses.nd (pe_op op_mod (pe_op op_fdiv (pv 2) (pe_op op_add (pe_op op_mul pe_int (pv 4)) pe_int)) pe_int))
      (pss_one (ps_if (pt_cmpR op_ne (pv 7) pe_int (nomark _)) (pss_one (ps_expr (pe_bm PySem.F.plainAttrs_list PySem.F.slot_list_append PySem.F.type_list_append mt_append (pv 3) (pa_1 (pe_tup (pa_c (pv 5) (pa_c (pe_op op_add pe_int (pe_op op_mod (pv 2) pe_int)) (pa_1 (pe_x ix_list (pe_lst (pa_c (pv 6) (pa_c (pe_op op_add (pv 6) pe_int) (pa_c (pe_callB (call_max2 rfl) (by rfl) T.b_max PyProof.Rows.Boot.«max» (pa_c pe_int (pa_1 (pe_op op_sub (pv 6) pe_int)))) (pa_c (pv 6) (pa_c (pv 6) (pa_c (pv 6) (pa_1 pe_int)))))))) (pe_op op_sub (pv 7) pe_int)))))))))) pss_nil))))))
      (pss_one (ps_ret (pv 3))))), ?_⟩
  walk_at "go"
  intro u hu
  generalize hh : upd _ u _ = H1
  obtain ⟨s1, e1⟩ := newO hu hh
  clear hh
  walk_at "go"
  refine for_range (fun i σ H' => Bx (∃ (v4 v5 v6 v7 : Option V) (sh : List (Str × Int × Int)) (ns : List Str), σ = [some (.ref p), some (.ref pn), some (.int c), some (.ref u), v4, v5, v6, v7] ∧ ShL H' u sh ∧ ns.Perm nm ∧ (0 < i → ns.Pairwise leT) ∧ (sh.map (·.1)).Sublist (ns.take i) ∧ Same H H')) ⟨_, _, _, _, [], nm, rfl, ⟨[], e1, rfl, fun i q t e => (by cases e)⟩, .refl _, fun z => absurd z (Nat.lt_irrefl 0), .slnil, s1⟩ ?_ ?_
  · rintro i σ H2 hi ⟨v4, v5, v6, v7, sh, ns, rfl, sl, pm, pw, sb, s2⟩
    have hn2 := s2 _ _ hn
    have nl : nm.length < 64 := by omega
    walk_at "go"
    intro sp ms hsp pm2 pw2
    generalize hh : upd _ sp _ = H3
    obtain ⟨s3, e3⟩ := newO hsp hh
    clear hh
    have ml : ms.length = 3 := by rw [pm2.length_eq]; exact n3
    have am : atI (ms.map V.str) (0 + (i : Int)) = some (.str ms[i]) := by rw [Int.zero_add]; exact atI_nat (by rw [List.getElem?_map, List.getElem?_eq_getElem (show i < ms.length by omega)]; rfl)
    have sb2 : (sh.map (·.1)).Sublist (ms.take i) := by
      by_cases c0 : 0 < i
      · have : ns = ms := List.Perm.eq_of_pairwise (fun _ _ _ _ a b => leT_anti a b) (pw c0) pw2 (pm.trans pm2.symm)
        rw [← this]; exact sb
      · have : i = 0 := by omega
        subst this
        exact sb
    have et : ms.take (i + 1) = ms.take i ++ [ms[i]] := List.take_succ_eq_append_getElem (by omega)
    generalize ms[i] = nz at am et
    have ek : V.str nz = kV (Sum.inr nz) := rfl
    have ko : KyOf "named" (Sum.inr nz) := .inr ⟨rfl, _, rfl⟩
    have p3 := s3 _ _ (s2 _ _ hp)
    have ra3 := ra.same (s2.trans s3)
    have cd : CDiv c (7 * (0 + (i : Int)) + 1) := ⟨by omega, by omega⟩
    walk_at "go"
    intro H4 s4
    walk_at "go"
    refine iteB (fun c1 => ?_) (fun c1 => ?_)
    · obtain ⟨ts, t1, t2, t3⟩ := sl.same (s3.trans s4)
      have tz : (ts.map V.ref).length < sizeLine := by
        have := sb.length_le
        rw [List.length_map, List.length_take] at this
        rw [List.length_map, t2, sizeLine_eq]; omega
      have c1 : ¬ c / (7 * (0 + (i : Int)) + 1) % 8 = 0 := fun z => by
        have c1 : (!decide (V.int (c / (7 * (0 + (i : Int)) + 1) % 8) = V.int 0)) = true := c1
        rw [z] at c1
        exact absurd c1 (by decide)
      obtain ⟨n7, a7⟩ := at7 (c / (7 * (0 + (i : Int)) + 1)) (cnt fs "named" (Sum.inr nz)) (cnt fs "named" (Sum.inr nz) + 1) (if cnt fs "named" (Sum.inr nz) - 1 > 0 then cnt fs "named" (Sum.inr nz) - 1 else 0) (cnt fs "named" (Sum.inr nz)) (cnt fs "named" (Sum.inr nz)) (cnt fs "named" (Sum.inr nz)) 0 c1
      walk_at "go"
      intro z7 hz7
      generalize hh : upd _ z7 _ = H5
      obtain ⟨s5, e5⟩ := newO hz7 hh
      clear hh
      walk_at "go"
      intro tq htq
      generalize hh : upd _ tq _ = H6
      obtain ⟨s6, e6⟩ := newO htq hh
      clear hh
      have t16 := s6 _ _ (s5 _ _ t1)
      walk_at "go"
      refine ⟨_, _, _, _, sh ++ [(nz, 1 + c % 64, n7)], ms, rfl, ShL.snoc (qs := ts) t2 (fun j q u' h1 h2 => ?_) upd_same ?_, pm2, fun _ => pw2, ?_, fun b x e => ?_⟩
      · have := s6 _ _ (s5 _ _ (t3 j q u' h1 h2))
        exact (upd_ne (fun z => by rw [z, t16] at this; cases this)).trans this
      · exact (upd_ne (fun z => by rw [z, t16] at e6; cases e6)).trans e6
      · rw [et, List.map_append]; exact sb2.append (.refl _)
      · rw [upd_ne (ne_of_none e hu)]; exact s6 _ _ (s5 _ _ (s4 _ _ (s3 _ _ (s2 _ _ e))))
    · walk_at "go"
      refine ⟨_, _, _, _, sh, ms, rfl, sl.same (s3.trans s4), pm2, fun _ => pw2, ?_, (s2.trans s3).trans s4⟩
      rw [et]; exact sb2.trans (List.sublist_append_left ..)
  · rintro σ H2 ⟨v4, v5, v6, v7, sh, ns, rfl, sl, pm, pw, sb, s2⟩
    walk_at "go"
    have l3 := sb.length_le
    rw [List.length_map, List.length_take] at l3
    have sb := sb.trans (List.take_sublist ..)
    exact k u sh H2 s2 hu sl (by omega) (sb.nodup (pm.nodup_iff.mpr nd)) fun t m => pm.mem_iff.mp (sb.subset (List.mem_map.mpr ⟨t, m, rfl⟩))
end
end K47

set_option hygiene false
set_option hygiene true
namespace K47
open PySem L2
def farP (kd : Str) (n : Nat) (f : Lf) : Bool := decide (f.kd = kd) && (match f.ky with | some (.inl i) => decide ((n : Int) ≤ i) | _ => false)
def gK (f : Lf) : Key := f.ky.getD (.inl 0)
def rngK (n : Nat) : List Key := (List.range n).map fun j : Nat => (Sum.inl (j : Int) : Key)
def Ge0 (fs : List Lf) : Prop := ∀ f ∈ fs, ∀ o r n, f = Lf.nu o r n → 0 ≤ n
theorem kd_nu {f : Lf} {kd : Str} {k : Key} (ko : kd = "held" ∨ kd = "out") (e : f.kd = kd) (h : f.ky = some k) : ∃ o r n, f = .nu o r n ∧ k = .inl n := by
  obtain ⟨i, rfl⟩ := kd_inl (by rw [e]; exact ko) h
  cases f with
  | fr r => cases h
  | nu o r n => exact ⟨o, r, n, rfl, (Option.some.inj h).symm⟩
  | na r x m => cases h
theorem farP_iff {kd : Str} {n : Nat} {f : Lf} : farP kd n f = true ↔ f.kd = kd ∧ ∃ i : Int, f.ky = some (.inl i) ∧ (n : Int) ≤ i := by
  unfold farP
  rw [Bool.and_eq_true, decide_eq_true_eq]
  refine ⟨fun ⟨h1, h2⟩ => ⟨h1, ?_⟩, fun ⟨h1, i, h2, h3⟩ => ⟨h1, ?_⟩⟩
  · split at h2
    · next i e => exact ⟨i, e, of_decide_eq_true h2⟩
    · cases h2
  · rw [h2]; exact decide_eq_true h3
theorem far_mem {fs : List Lf} {kd : Str} {n : Nat} {k : Key} : k ∈ (fs.filter (farP kd n)).map gK ↔ ∃ i : Int, k = .inl i ∧ (n : Int) ≤ i ∧ ∃ f ∈ fs, f.kd = kd ∧ f.ky = some (.inl i) := by
  rw [List.mem_map]
  refine ⟨fun ⟨f, m, e⟩ => ?_, fun ⟨i, e, hi, f, mf, h1, h2⟩ => ⟨f, List.mem_filter.mpr ⟨mf, farP_iff.mpr ⟨h1, i, h2, hi⟩⟩, by unfold gK; rw [h2, e]; rfl⟩⟩
  obtain ⟨mf, p⟩ := List.mem_filter.mp m
  obtain ⟨h1, i, h2, hi⟩ := farP_iff.mp p
  refine ⟨i, ?_, hi, f, mf, h1, h2⟩
  rw [← e]; unfold gK; rw [h2]; rfl
theorem ne_cnt {fs : List Lf} {kd : Str} {k : Key} {f : Lf} (mf : f ∈ fs) (h1 : f.kd = kd) (h2 : f.ky = some k) : cnt fs kd k ≠ 0 := by
  have : f ∈ fs.filter (nms kd k) := List.mem_filter.mpr ⟨mf, by unfold nms; rw [decide_eq_true h1, decide_eq_true h2]; rfl⟩
  have := List.length_pos_of_mem this
  unfold cnt
  omega
theorem numsSrt {fs : List Lf} {kd : Str} {cs : List Int} {ks : List Key} (ko : kd = "held" ∨ kd = "out") (g0 : Ge0 fs) (nd : ks.Nodup) (pw : ks.Pairwise kle) (mm : ∀ k, k ∈ ks ↔ k ∈ (fs.filter (farP kd cs.length)).map gK) : Srt (rngK cs.length ++ ks) (PI fs kd cs) := by
  have rm : ∀ k, k ∈ rngK cs.length ↔ ∃ j : Nat, j < cs.length ∧ k = .inl (j : Int) := fun k => by
    unfold rngK
    rw [List.mem_map]
    exact ⟨fun ⟨j, m, e⟩ => ⟨j, List.mem_range.mp m, e.symm⟩, fun ⟨j, m, e⟩ => ⟨j, List.mem_range.mpr m, e.symm⟩⟩
  refine ⟨List.nodup_append.mpr ⟨?_, nd, fun x mx y my e => ?_⟩, List.pairwise_append.mpr ⟨?_, pw, fun x mx y my => ?_⟩, fun k => ?_⟩
  · unfold rngK List.Nodup
    rw [List.pairwise_map]
    exact List.Pairwise.imp (fun {a b} h e => h (Int.ofNat.inj (Sum.inl.inj e))) List.nodup_range
  · obtain ⟨j, jl, rfl⟩ := (rm x).mp mx
    obtain ⟨i, e2, hi, _⟩ := far_mem.mp ((mm y).mp my)
    rw [← e] at e2
    have := Sum.inl.inj e2
    omega
  · unfold rngK
    rw [List.pairwise_map]
    exact List.Pairwise.imp (fun {a b} h => (by show (a : Int) ≤ (b : Int); omega)) List.pairwise_lt_range
  · obtain ⟨j, jl, rfl⟩ := (rm x).mp mx
    obtain ⟨i, rfl, hi, _⟩ := far_mem.mp ((mm y).mp my)
    show (j : Int) ≤ i
    omega
  · rw [List.mem_append, rm, mm, far_mem]
    unfold PI
    constructor
    · rintro (h | ⟨i, rfl, hi, f, mf, h1, h2⟩)
      · exact .inr h
      · exact .inl (ne_cnt mf h1 h2)
    · rintro (h | h)
      · obtain ⟨f, mf, h1, h2⟩ := cnt_ne h
        obtain ⟨o, r, n, rfl, rfl⟩ := kd_nu ko h1 h2
        have := g0 _ mf o r n rfl
        by_cases c : n < cs.length
        · exact .inl ⟨n.toNat, by omega, by rw [Int.toNat_of_nonneg this]⟩
        · exact .inr ⟨n, rfl, by omega, _, mf, h1, h2⟩
      · exact .inl h
theorem all_inl : ∀ {l : List Key}, (∀ k ∈ l, ∃ i, k = Sum.inl i) → l = (l.map kkI).map Sum.inl
  | [], _ => rfl
  | x :: l, h => by
    obtain ⟨i, rfl⟩ := h x (List.mem_cons_self ..)
    rw [List.map_cons, List.map_cons, ← all_inl fun k m => h k (List.mem_cons_of_mem _ m)]; rfl
theorem runL_rng (n : Nat) : (runL 0 ((n : Int) - 0).toNat).map V.int = (rngK n).map kV := by
  unfold runL rngK
  rw [List.map_map, List.map_map, show ((n : Int) - 0).toNat = n by omega]
  refine List.map_congr_left fun j _ => ?_
  show V.int (0 + (j : Int)) = V.int (j : Int)
  rw [Int.zero_add]
theorem PI.nn {fs : List Lf} {kd : Str} {cs : List Int} {k : Key} (ko : kd = "held" ∨ kd = "out") (g0 : Ge0 fs) (h : PI fs kd cs k) : ∃ n : Int, k = .inl n ∧ 0 ≤ n := by
  rcases h with h | ⟨j, _, rfl⟩
  · obtain ⟨f, mf, h1, h2⟩ := cnt_ne h
    obtain ⟨o, r, n, rfl, rfl⟩ := kd_nu ko h1 h2
    exact ⟨n, rfl, g0 _ mf o r n rfl⟩
  · exact ⟨_, rfl, by omega⟩
theorem cI_in {cs : List Int} {n : Int} (h0 : 0 ≤ n) (h1 : n < cs.length) : cI cs (.inl n) = cs.getD n.toNat 0 := by
  unfold cI vI
  rw [cI_val]
  dsimp only
  rw [if_pos ⟨h0, h1⟩, List.getD_eq_getElem?_getD, List.getElem?_eq_getElem (by omega)]; rfl
theorem cI_out {cs : List Int} {n : Int} (h1 : ¬ n < cs.length) : cI cs (.inl n) = 0 := by
  unfold cI vI
  rw [cI_val]
  dsimp only
  rw [if_neg (fun z => h1 z.2)]
def spNums : Sp := fun vs H Q _ => ∃ (p pc : Addr) (w kd : Str) (qs : List Addr) (fs : List Lf) (cs : List Int), vs = [.ref p, .str w, .str kd, .ref pc] ∧ H p = some (.lst (qs.map V.ref)) ∧ RowsA H qs fs ∧ fs.length < 70 ∧ Ge0 fs ∧ H pc = some (.lst (cs.map V.int)) ∧ cs.length < 20 ∧ (kd = "held" ∨ kd = "out") ∧ ∀ (q : Addr) (ks : List Key) (H' : Hp), Same H H' → H q = none → Srt ks (PI fs kd cs) → UL H' q (unl w (cnt fs kd) (cI cs) ks) → Q (.ref q) H'
section
variable (P : Program) {w : World} {K : PySem.W.Frag} {mg : Str → Option Value} (base : Heap) {a : Adr} {dvs : List V}
theorem ok__law_numbers (R : RawF K mg "_law_numbers" (top 13) ["_law_rows", "_law_word", "_law_kind", "_law_counts_here"] dvs) (T : Txt K mg a)
    (h__law_many : HasFn P w K mg base 1 "_law_many" ["_law_rows", "_law_kind", "_law_one"] (spMany) []) :
    HasFn P w K mg base 2 "_law_numbers" ["_law_rows", "_law_word", "_law_kind", "_law_counts_here"] (spNums) dvs := by
  refine R.ok sc__law_numbers (by walk_at "l0") ?_
  intro f cdv A outer s H vs Q E hr
  rintro ⟨p, pc, wd, kd, qs, fs, cs, rfl, hp, ra, fl, g0, hc, cl, ko, k⟩
  refine L2.xl ?_
  intro X _ _
  let R2b2 : {t : TS // PSs X ((bodyOf ((defBody (top 13)).getD 2 (.Pass ⟨0, 0, 0, 0⟩))).drop 2) t} := ⟨_, (pss_cons (ps_sl 8 sc__law_numbers.nd (pe_fn h__law_many hr.m (by rfl) pass_def (pa_c (pv 0) (pa_c (pv 2) (pa_1 (pv 6))))))
      (pss_one (ps_if (pt_cmpR op_ne (pv 8) (pv 7) (nomark _)) (pss_one (ps_expr (pe_bm PySem.F.plainAttrs_list PySem.F.slot_list_append PySem.F.type_list_append mt_append (pv 4) (pa_1 (pe_tup (pa_c (pv 1) (pa_c (pv 6) (pa_c (pv 8) (pa_1 (pv 7)))))))))) pss_nil)))⟩
  refine ⟨_, (pss_cons (ps_sl 4 sc__law_numbers.nd (pe_lst pa_nil))
      (pss_cons (ps_setC (j := 5) sc__law_numbers.nd rfl rfl (xs := ["_law_place"]) (N' := ["_law_rows", "_law_word", "_law_kind", "_law_counts_here", "_law_due", "_law_far", "_law_number", "_law_count", "_law_named"]) rfl ⟨rfl, by decide +kernel, by decide +kernel, by dsimp only [X, cxOf, PyProof.Rows.envOfC]; decide +kernel, by decide +kernel, by dsimp only [X, cxOf]; decide +kernel, rfl⟩ (pi_list (pv 0)) (fun _ _ _ _ _ => (pg_name (i := 0) (by dsimp only [X, cxComp]; decide +kernel) rfl (by first | exact Or.inl rfl | exact Or.inr rfl))) (fun _ _ _ _ _ => (pts_one (PW.pt (pw_and (pt_cmpR op_eq (pe_x (ix_tupK (K := K) rfl) (pe_x (ix_tupK (K := K) rfl) (pv 0) pe_int) pe_int) (pv 3) (nomark _)) (pw_and1 (pt_cmpR op_ge (pe_x (ix_tupK (K := K) rfl) (pe_x (ix_tupK (K := K) rfl) (pv 0) pe_int) pe_int) (pe_callB (call_lenK (K := K) rfl) (by rfl) (by exact T.b_len) PySem.boot_len (pa_1 (pv 4))) (nomark _))))))) (fun _ _ _ _ _ => (pe_x (ix_tupK (K := K) rfl) (pe_x (ix_tupK (K := K) rfl) (pv 0) pe_int) pe_int)))
      (pss_cons (ps_for own_def rfl (pi_list (pe_op op_cat (pe_callTy (call_list_rng rfl) (by rfl) T.b_list PyProof.Rows.Boot.«list» (pa_1 (pe_range1 (by rfl) T.b_range (pe_callB call_len_seq (by rfl) T.b_len PySem.boot_len (pa_1 (pv 3)))))) (pe_callB (call_sortedS hr.hd) (by rfl) T.b_sorted PyProof.Rows.Boot.«sorted» (pa_1 (pe_callTy (call_setL hr.hd) (by rfl) T.b_set PyProof.Rows.Boot.«set» (pa_1 (pv 5))))))) (pg_name (i := 6) sc__law_numbers.nd rfl (by first | exact Or.inl rfl | exact Or.inr rfl))
      (pss_cons (ps_sl 7 sc__law_numbers.nd pe_int)
      (pss_cons (ps_if (pt_cmpR op_lt (pv 6) (pe_callB call_len_seq (by rfl) T.b_len PySem.boot_len (pa_1 (pv 3))) (nomark _)) (pss_one (ps_sl 7 sc__law_numbers.nd (pe_x ix_list (pv 3) (pv 6)))) pss_nil)
      R2b2.2)))
      (pss_one (ps_ret (pv 4)))))), ?_⟩
  walk_at "go"
  intro u hu
  generalize hh : upd _ u _ = H1
  obtain ⟨s1, e1⟩ := newO hu hh
  clear hh
  have p1 := s1 _ _ hp
  walk_at "go"
  intro v hv
  refine comp_listZ (fs := fs) hv (fun _ f => kV (gK f)) (farP kd cs.length) (SqL.of p1) (by rw [List.length_map]; exact ra.1) (by rw [List.length_map, ra.1, sizeLine_eq]; omega) (fun i x g ys hx hg R r => ?_) (fun i x g ys hx hg pg R r => ?_) ?_
  · obtain ⟨q, g', rfl, eg, ro⟩ := (ra.same s1).at hx
    rw [hg] at eg
    cases eg
    obtain ⟨w', g1, kk, l, q1, q2, _⟩ := ro.same (same_upd (u := .lst ys) hv)
    have a3 : atI [V.str w', kV g1, .int kk, .ref l] 3 = some (.ref l) := rfl
    have a0 := g.at0
    have c1 := same_upd (u := .lst ys) hv _ _ (s1 _ _ hc)
    walk_at "go"
    refine iteD (fun c => ?_) (fun c => ?_)
    · have c : g.kd = kd := V.str.inj c
      obtain ⟨j, ek⟩ := Lf.some (f := g) (by rw [c]; rcases ko with h | h <;> rw [h] <;> decide +kernel)
      have a2 := Lf.at2 ek
      obtain ⟨o, r', n, rfl, rfl⟩ := kd_nu ko c ek
      walk_at "go"
      have en : farP kd cs.length (.nu o r' n) = decide (((cs.map V.int).length : Int) ≤ n) := by
        unfold farP
        rw [decide_eq_true c, Bool.true_and, List.length_map]; rfl
      rw [en] at r
      exact r
    · have en : farP kd cs.length g = false := by
        unfold farP
        rw [decide_eq_false (fun h => c (by rw [h]))]; rfl
      rw [en] at r
      exact r
  · obtain ⟨q, g', rfl, eg, ro⟩ := (ra.same s1).at hx
    rw [hg] at eg
    cases eg
    obtain ⟨w', g1, kk, l, q1, q2, _⟩ := ro.same (same_upd (u := .lst ys) hv)
    have a3 : atI [V.str w', kV g1, .int kk, .ref l] 3 = some (.ref l) := rfl
    obtain ⟨h1, n, h2, hi⟩ := farP_iff.mp pg
    have a2 := Lf.at2 h2
    unfold gK at r
    rw [h2] at r
    walk_at "go"
    exact r
  · have er : (((qs.map V.ref).zip fs).filter fun z => farP kd cs.length z.2).map (fun z => kV (gK z.2)) = ((fs.filter (farP kd cs.length)).map gK).map kV := by
      rw [← zipf (farP kd cs.length) (xs := qs.map V.ref) (fs := fs) (by rw [List.length_map]; exact ra.1), List.map_map, List.map_map]; rfl
    rw [er]
    have fm := fun k => far_mem (fs := fs) (kd := kd) (n := cs.length) (k := k)
    have fz : ((fs.filter (farP kd cs.length)).map gK).length ≤ 100 := by
      rw [List.length_map]
      have := List.length_filter_le (farP kd cs.length) fs
      omega
    generalize hks : (fs.filter (farP kd cs.length)).map gK = far at *
    generalize hh : upd _ v _ = H2
    obtain ⟨s2, e2⟩ := newO hv hh
    clear hh
    have c2 := s2 _ _ (s1 _ _ hc)
    walk_at "go"
    intro rg hrg
    generalize hh : upd _ rg _ = H3
    obtain ⟨s3, e3⟩ := newO hrg hh
    clear hh
    have rb : ((cs.map V.int).length : Int) - 0 ≤ 1000000 := by rw [List.length_map]; omega
    walk_at "go"
    intro rl hrl
    generalize hh : upd _ rl _ = H4
    obtain ⟨s4, e4⟩ := newO hrl hh
    clear hh
    have e24 := s4 _ _ (s3 _ _ e2)
    walk_at "go"
    intro sp D hsp ndD Dl mD
    generalize hh : upd _ sp _ = H5
    obtain ⟨s5, e5⟩ := newO hsp hh
    clear hh
    have Dl2 : D.length < 128 := by omega
    have ok : OneK D := .inl ⟨D.map kkI, all_inl fun k m => by
      obtain ⟨i, e, _⟩ := (fm k).mp ((mD k).mp m)
      exact ⟨i, e⟩⟩
    walk_at "go"
    intro sl ks hsl pm pw
    generalize hh : upd _ sl _ = H6
    obtain ⟨s6, e6⟩ := newO hsl hh
    clear hh
    have e46 := s6 _ _ (s5 _ _ e4)
    rw [List.length_map, runL_rng] at e46
    have z6 : ((rngK cs.length).map kV).length + (ks.map kV).length ≤ sizeLine := by
      have := pm.length_eq
      rw [List.length_map, List.length_map, rngK, List.length_map, List.length_range, sizeLine_eq]; omega
    walk_at "go"
    intro lp hlp
    generalize hh : upd _ lp _ = H7
    obtain ⟨s7, e7⟩ := newO hlp hh
    clear hh
    have srt : Srt (rngK cs.length ++ ks) (PI fs kd cs) := numsSrt ko g0 (pm.nodup_iff.mpr ndD) pw fun k => by rw [hks]; exact pm.mem_iff.trans (mD k)
    rw [← List.map_append] at e7
    have Ll : (rngK cs.length ++ ks).length < 200 := by
      rw [List.length_map, List.length_map] at z6
      have := pm.length_eq
      rw [List.length_append, rngK, List.length_map, List.length_range]; omega
    generalize rngK cs.length ++ ks = L at *
    have s17 : Same H1 H7 := ((((s2.trans s3).trans s4).trans s5).trans s6).trans s7
    have nlu : lp ≠ u := (ne_of_none (((((s2.trans s3).trans s4).trans s5).trans s6) _ _ e1) hlp).symm
    walk_at "go"
    refine for_list (xs := L.map kV) (fun i σ H' => Bx (∃ (v6 v7 v8 : Option V), σ = [some (.ref p), some (.str wd), some (.str kd), some (.ref pc), some (.ref u), some (.ref v), v6, v7, v8] ∧ UL H' u (unl wd (cnt fs kd) (cI cs) (L.take i)) ∧ (∀ c x, c ≠ u → H7 c = some x → H' c = some x))) ⟨_, _, _, rfl, UL.nil (s17 _ _ e1), fun c x _ h => h⟩ (fun i σ H' _ y => ?_) ?_ ?_
    · obtain ⟨v6, v7, v8, rfl, ul, sm⟩ := y
      exact SqL.of (sm _ _ nlu e7)
    · rintro i x σ H8 hx ⟨v6, v7, v8, rfl, ul, sm⟩
      obtain ⟨kk, rfl, ek⟩ : ∃ kk, x = kV kk ∧ L[i]? = some kk := by
        rw [List.getElem?_map] at hx
        cases e : L[i]? with
        | none => rw [e] at hx; cases hx
        | some z => rw [e] at hx; cases hx; exact ⟨z, rfl, rfl⟩
      have et : L.take (i + 1) = L.take i ++ [kk] := by
        obtain ⟨il, rfl⟩ := List.getElem?_eq_some_iff.mp ek
        exact List.take_succ_eq_append_getElem il
      have il := (List.getElem?_eq_some_iff.mp ek).1
      obtain ⟨n, rfl, n0⟩ := PI.nn ko g0 ((srt.mem kk).mp (List.mem_of_getElem? ek))
      have s08 : Same H H8 := fun c x e => sm _ _ (ne_of_none e hu) (s17 _ _ (s1 _ _ e))
      have p8 := s08 _ _ hp
      have ra8 := ra.same s08
      have c8 := s08 _ _ hc
      have ek2 : V.int n = kV (Sum.inl n) := rfl
      have ko2 : KyOf kd (Sum.inl n) := .inl ⟨ko, _, rfl⟩
      have tail : ∀ (BK CT : St → Hp → Prop), R2b2.1 { nx := fun σ H' => Bx (∃ (v6 v7 v8 : Option V), σ = [some (.ref p), some (.str wd), some (.str kd), some (.ref pc), some (.ref u), some (.ref v), v6, v7, v8] ∧ UL H' u (unl wd (cnt fs kd) (cI cs) (L.take (i + 1))) ∧ (∀ c x, c ≠ u → H7 c = some x → H' c = some x)), rt := Q, bk := BK, ct := CT } [some (.ref p), some (.str wd), some (.str kd), some (.ref pc), some (.ref u), some (.ref v), some (.int n), some (.int (cI cs (.inl n))), v8] H8 := by
        intro BK CT
        walk_at "go"
        intro H9 s9
        have u9 := ul.same s9
        walk_at "go"
        refine iteB (fun c => ?_) (fun c => ?_)
        · have c : cnt fs kd (.inl n) ≠ cI cs (.inl n) := fun z => by
            have c : (!decide (V.int (cnt fs kd (.inl n)) = V.int (cI cs (.inl n)))) = true := c
            rw [z, decide_eq_true rfl] at c
            cases c
          obtain ⟨us, u1, u2, u3⟩ := u9
          have qz : (us.map V.ref).length < sizeLine := by
            have := unl_len (w := wd) (f := cnt fs kd) (g := cI cs) (ks := L.take i)
            rw [List.length_take] at this
            rw [List.length_map, sizeLine_eq]; omega
          walk_at "go"
          intro tq htq
          generalize hh : upd _ tq _ = H10
          obtain ⟨s10, e10⟩ := newO htq hh
          clear hh
          have u10 := s10 _ _ u1
          walk_at "go"
          refine ⟨_, _, _, rfl, ?_, fun c x n h => ?_⟩
          · rw [et, unl_yes c]
            refine UL.snoc (qs := us) u2 (fun j q x h1 h2 => ?_) upd_same ?_
            · have := s10 _ _ (u3 j q x h1 h2)
              exact (upd_ne (fun z => by rw [z, u10] at this; cases this)).trans this
            · exact (upd_ne (fun z => by rw [z, u10] at e10; cases e10)).trans e10
          · rw [upd_ne n]; exact s10 _ _ (s9 _ _ (sm _ _ n h))
        · have c : cnt fs kd (.inl n) = cI cs (.inl n) := Decidable.byContradiction fun z => c (by
            show (!decide (V.int (cnt fs kd (.inl n)) = V.int (cI cs (.inl n)))) = true
            rw [decide_eq_false fun e => z (V.int.inj e)]; rfl)
          walk_at "go"
          refine ⟨_, _, _, rfl, ?_, fun c x n h => s9 _ _ (sm _ _ n h)⟩
          rw [et, unl_no c]; exact u9
      have a1 : n < cs.length → atI (cs.map V.int) n = some (.int (cI cs (.inl n))) := fun h => by rw [cI_in n0 h]; exact atI_getD n0 h
      walk_at "go"
      refine iteD (fun c1 => ?_) (fun c1 => ?_)
      · rw [List.length_map] at c1
        have a1 := a1 c1
        repeat (first | exact tail _ _ | walk_at "i2")
      · rw [List.length_map] at c1
        have ec := cI_out c1
        rw [ec] at tail
        exact tail _ _
    · rintro σ H8 ⟨v6, v7, v8, rfl, ul, sm⟩
      walk_at "go"
      rw [List.length_map, List.take_length] at ul
      exact k u L H8 (fun c x e => sm _ _ (ne_of_none e hu) (s17 _ _ (s1 _ _ e))) hu srt ul
end
end K47

set_option hygiene false
set_option hygiene true
namespace K47
open PySem L2
theorem unl_one {w : Str} {f g : Key → Int} {k1 k2 : List Key} {P1 P2 : Key → Prop} (h1 : Srt k1 P1) (h2 : Srt k2 P2) (h : ∀ k, f k ≠ g k → P1 k ∧ P2 k) : unl w f g k1 = unl w f g k2 := by
  have key : ∀ {ks : List Key} {P : Key → Prop}, Srt ks P → (∀ k, f k ≠ g k → P k) → Srt (ks.filter fun k => decide (f k ≠ g k)) (fun k => f k ≠ g k) := fun {ks P} s hp => by
    refine ⟨s.nd.filter _, s.pw.filter _, fun k => ?_⟩
    rw [List.mem_filter, decide_eq_true_eq]
    exact ⟨fun m => m.2, fun m => ⟨(s.mem k).mpr (hp k m), m⟩⟩
  unfold unl
  rw [(key h1 fun k m => (h k m).1).one (key h2 fun k m => (h k m).2)]
theorem uI_snoc (sh : List (Str × Int × Int)) (t : Str × Int × Int) (k : Key) : uI (sh ++ [t]) k = if k = .inr t.1 then t.2.2 else uI sh k := by
  unfold uI vI
  rw [usD_snoc, valV_put]
  by_cases c : k = .inr t.1
  · rw [if_pos c, if_pos c]
  · rw [if_neg c, if_neg c]
def usS (sh : List (Str × Int × Int)) (x : Str) : List Int := (sh.filter fun t => decide (t.1 = x)).map (·.2.2)
theorem uI_sum (x : Str) : ∀ {sh : List (Str × Int × Int)}, (sh.map (·.1)).Nodup → (usS sh x).sum = uI sh (.inr x) := by
  have key : ∀ sh : List (Str × Int × Int), (sh.reverse.map (·.1)).Nodup → (usS sh.reverse x).sum = uI sh.reverse (.inr x) ∧ (x ∉ sh.reverse.map (·.1) → usS sh.reverse x = []) := by
    intro sh
    induction sh with
    | nil => exact fun _ => ⟨rfl, fun _ => rfl⟩
    | cons t sh ih =>
      intro nd
      rw [List.reverse_cons] at nd ⊢
      rw [List.map_append] at nd
      obtain ⟨n1, n2, n3⟩ := List.nodup_append.mp nd
      obtain ⟨i1, i2⟩ := ih n1
      have es : usS (sh.reverse ++ [t]) x = usS sh.reverse x ++ (if t.1 = x then [t.2.2] else []) := by
        unfold usS
        rw [List.filter_append, List.map_append]
        by_cases c : t.1 = x
        · rw [if_pos c, List.filter_cons, if_pos (decide_eq_true c)]; rfl
        · rw [if_neg c, List.filter_cons, decide_eq_false c]; rfl
      rw [es, uI_snoc]
      by_cases c : t.1 = x
      · rw [if_pos c, if_pos (by rw [c]), i2 fun m => n3 x m t.1 (by simp) c.symm]
        refine ⟨by simp, fun z => absurd ?_ z⟩
        rw [List.map_append, ← c]
        exact List.mem_append_right _ (by simp)
      · rw [if_neg c, if_neg (fun z => c (Sum.inr.inj z).symm), List.append_nil]
        exact ⟨i1, fun z => i2 fun m => z (by rw [List.map_append]; exact List.mem_append_left _ m)⟩
  intro sh nd
  have := (key sh.reverse (by rw [List.reverse_reverse]; exact nd)).1
  rwa [List.reverse_reverse] at this
theorem srtN {ns nm : List Str} (pm : ns.Perm nm) (nd : nm.Nodup) (pw : ns.Pairwise leT) : Srt (ns.map Sum.inr) (fun k => ∃ x ∈ nm, k = Sum.inr x) := by
  refine ⟨?_, ?_, fun k => ?_⟩
  · unfold List.Nodup
    rw [List.pairwise_map]
    exact List.Pairwise.imp (fun {a b} h e => h (Sum.inr.inj e)) (pm.nodup_iff.mpr nd)
  · rw [List.pairwise_map]
    exact pw
  · rw [List.mem_map]
    exact ⟨fun ⟨x, m, e⟩ => ⟨x, pm.mem_iff.mp m, e.symm⟩, fun ⟨x, m, e⟩ => ⟨x, pm.mem_iff.mpr m, e.symm⟩⟩
def spNmD : Sp := fun vs H Q _ => ∃ (p ph pn : Addr) (qs : List Addr) (fs : List Lf) (sh : List (Str × Int × Int)) (nm : List Str), vs = [.ref p, .ref ph, .ref pn] ∧ H p = some (.lst (qs.map V.ref)) ∧ RowsA H qs fs ∧ fs.length < 70 ∧ ShL H ph sh ∧ sh.length < 20 ∧ (sh.map (·.1)).Nodup ∧ H pn = some (.lst (nm.map V.str)) ∧ nm.length < 20 ∧ nm.Nodup ∧ ∀ (q : Addr) (ks : List Key) (H' : Hp), Same H H' → H q = none → Srt ks (fun k => ∃ x ∈ nm, k = Sum.inr x) → UL H' q (unl "share" (cnt fs "named") (uI sh) ks) → Q (.ref q) H'
section
variable (P : Program) {w : World} {K : PySem.W.Frag} {mg : Str → Option Value} (base : Heap) {a : Adr} {dvs : List V}
theorem ok__law_names_due (R : RawF K mg "_law_names_due" (top 14) ["_law_rows", "_law_shares", "_law_names_here"] dvs) (T : Txt K mg a)
    (h__law_many : HasFn P w K mg base 1 "_law_many" ["_law_rows", "_law_kind", "_law_one"] (spMany) []) :
    HasFn P w K mg base 2 "_law_names_due" ["_law_rows", "_law_shares", "_law_names_here"] (spNmD) dvs := by
  refine R.ok sc__law_names_due (by walk_at "l0") ?_
  intro f cdv A outer s H vs Q E hr
  rintro ⟨p, ph, pn, qs, fs, sh, nm, rfl, hp, ra, fl, hs, sl, snd, hn, nl, nd, k⟩
  refine L2.xl ?_
  intro X _ _
  refine ⟨_, (pss_cons (ps_sl 3 sc__law_names_due.nd (pe_lst pa_nil))
      (pss_cons (ps_for own_def rfl (pi_list (pe_callB call_sortedLS (by rfl) T.b_sorted PyProof.Rows.Boot.«sorted» (pa_1 (pv 2)))) (pg_name (i := 4) sc__law_names_due.nd rfl (by first | exact Or.inl rfl | exact Or.inr rfl))
      (pss_cons (ps_sl 5 sc__law_names_due.nd (pe_callB (call_sumL rfl) (by rfl) T.b_sum PyProof.Rows.Boot.«sum» (pa_1 (pe_comp (xs := ["_law_one"]) (N' := ["_law_rows", "_law_shares", "_law_names_here", "_law_due", "_law_name", "_law_uses_here", "_law_named"]) rfl ⟨rfl, by decide +kernel, by decide +kernel, by dsimp only [X, cxOf, PyProof.Rows.envOfC]; decide +kernel, by decide +kernel, by dsimp only [X, cxOf]; decide +kernel, rfl⟩ (pi_list (pv 1)) (fun _ _ _ _ _ => (pg_name (i := 0) (by dsimp only [X, cxComp]; decide +kernel) rfl (by first | exact Or.inl rfl | exact Or.inr rfl))) (fun _ _ _ _ _ => (pts_one (pt_cmpR op_eq (pe_x (ix_tupK (K := K) rfl) (pv 0) pe_int) (pv 5) (nomark _)))) (fun _ _ _ _ _ => (pe_x (ix_tupK (K := K) rfl) (pv 0) pe_int))))))
      (pss_cons (ps_sl 6 sc__law_names_due.nd (pe_fn h__law_many hr.m (by rfl) pass_def (pa_c (pv 0) (pa_c pe_str (pa_1 (pv 4))))))
      (pss_one (ps_if (pt_cmpR op_ne (pv 6) (pv 5) (nomark _)) (pss_one (ps_expr (pe_bm PySem.F.plainAttrs_list PySem.F.slot_list_append PySem.F.type_list_append mt_append (pv 3) (pa_1 (pe_tup (pa_c pe_str (pa_c (pv 4) (pa_c (pv 6) (pa_1 (pv 5)))))))))) pss_nil)))))
      (pss_one (ps_ret (pv 3))))), ?_⟩
  walk_at "go"
  intro u hu
  generalize hh : upd _ u _ = H1
  obtain ⟨s1, e1⟩ := newO hu hh
  clear hh
  have n1 := s1 _ _ hn
  have nl64 : nm.length < 64 := by omega
  walk_at "go"
  intro sp ns hsp pm pw
  generalize hh : upd _ sp _ = H2
  obtain ⟨s2, e2⟩ := newO hsp hh
  clear hh
  have srt := srtN pm nd pw
  have nsl := pm.length_eq
  have nsu : sp ≠ u := (ne_of_none e1 hsp).symm
  walk_at "go"
  refine for_list (xs := ns.map V.str) (fun i σ H' => Bx (∃ (v4 v5 v6 : Option V), σ = [some (.ref p), some (.ref ph), some (.ref pn), some (.ref u), v4, v5, v6] ∧ UL H' u (unl "share" (cnt fs "named") (uI sh) ((ns.map Sum.inr).take i)) ∧ (∀ c x, c ≠ u → H2 c = some x → H' c = some x))) ⟨_, _, _, rfl, UL.nil (s2 _ _ e1), fun c x _ h => h⟩ (fun i σ H' _ y => ?_) ?_ ?_
  · obtain ⟨v4, v5, v6, rfl, ul, sm⟩ := y
    exact SqL.of (sm _ _ nsu e2)
  · rintro i x σ H3 hx ⟨v4, v5, v6, rfl, ul, sm⟩
    obtain ⟨y, rfl, ey⟩ : ∃ y, x = .str y ∧ ns[i]? = some y := by
      rw [List.getElem?_map] at hx
      cases e : ns[i]? with
      | none => rw [e] at hx; cases hx
      | some z => rw [e] at hx; cases hx; exact ⟨z, rfl, rfl⟩
    have et : (ns.map (Sum.inr : Str → Key)).take (i + 1) = (ns.map Sum.inr).take i ++ [Sum.inr y] := by
      have ey : (ns.map Sum.inr)[i]? = some (Sum.inr y : Key) := by rw [List.getElem?_map, ey]; rfl
      obtain ⟨il, e⟩ := List.getElem?_eq_some_iff.mp ey
      rw [← e]
      exact List.take_succ_eq_append_getElem il
    have s03 : Same H H3 := fun c x e => sm _ _ (ne_of_none e hu) (s2 _ _ (s1 _ _ e))
    obtain ⟨ts, t1, t2, t3⟩ := hs.same s03
    walk_at "go"
    intro v hv
    refine comp_listZ (fs := sh) hv (fun _ t => .int t.2.2) (fun t => decide (t.1 = y)) (SqL.of t1) (by rw [List.length_map]; exact t2) (by rw [List.length_map, t2, sizeLine_eq]; omega) (fun j x g ys hx hg R r => ?_) (fun j x g ys hx hg pg R r => ?_) ?_
    · obtain ⟨tq, rfl, et⟩ : ∃ tq, x = .ref tq ∧ ts[j]? = some tq := by
        rw [List.getElem?_map] at hx
        cases e : ts[j]? with
        | none => rw [e] at hx; cases hx
        | some z => rw [e] at hx; cases hx; exact ⟨z, rfl, rfl⟩
      have so : upd H3 v (.lst ys) tq = some (.tup [.str g.1, .int g.2.1, .int g.2.2]) := same_upd hv _ _ (t3 j tq g et hg)
      have ed : decide (g.1 = y) = decide (V.str g.1 = V.str y) := decide_eq_decide.mpr ⟨congrArg V.str, V.str.inj⟩
      rw [ed] at r
      walk_at "go"
      exact r
    · obtain ⟨tq, rfl, et⟩ : ∃ tq, x = .ref tq ∧ ts[j]? = some tq := by
        rw [List.getElem?_map] at hx
        cases e : ts[j]? with
        | none => rw [e] at hx; cases hx
        | some z => rw [e] at hx; cases hx; exact ⟨z, rfl, rfl⟩
      have so : upd H3 v (.lst ys) tq = some (.tup [.str g.1, .int g.2.1, .int g.2.2]) := same_upd hv _ _ (t3 j tq g et hg)
      walk_at "go"
      exact r
    · have er : (((ts.map V.ref).zip sh).filter fun z => decide (z.2.1 = y)).map (fun z => V.int z.2.2.2) = (usS sh y).map V.int := by
        unfold usS
        rw [← zipf (fun t : Str × Int × Int => decide (t.1 = y)) (xs := ts.map V.ref) (fs := sh) (by rw [List.length_map]; exact t2), List.map_map, List.map_map]; rfl
      rw [er]
      generalize hh : upd _ v _ = H4
      obtain ⟨s4, e4⟩ := newO hv hh
      clear hh
      have us' := uI_sum y snd
      have ek : V.str y = kV (Sum.inr y) := rfl
      have ko : KyOf "named" (Sum.inr y) := .inr ⟨rfl, _, rfl⟩
      have p4 := s4 _ _ (s03 _ _ hp)
      have ra4 := ra.same (s03.trans s4)
      walk_at "go"
      intro H5 s5
      have u5 := ul.same (s4.trans s5)
      walk_at "go"
      rw [us']
      refine iteB (fun c => ?_) (fun c => ?_)
      · have c : cnt fs "named" (.inr y) ≠ uI sh (.inr y) := fun z => by
          have c : (!decide (V.int (cnt fs "named" (.inr y)) = V.int (uI sh (.inr y)))) = true := c
          rw [z, decide_eq_true rfl] at c
          cases c
        obtain ⟨us, u1, u2, u3⟩ := u5
        have qz : (us.map V.ref).length < sizeLine := by
          have := unl_len (w := "share") (f := cnt fs "named") (g := uI sh) (ks := (ns.map Sum.inr).take i)
          rw [List.length_take, List.length_map] at this
          rw [List.length_map, sizeLine_eq]; omega
        walk_at "go"
        intro tq htq
        generalize hh : upd _ tq _ = H10
        obtain ⟨s10, e10⟩ := newO htq hh
        clear hh
        have u10 := s10 _ _ u1
        rw [us'] at e10
        walk_at "go"
        refine ⟨_, _, _, rfl, ?_, fun c x n h => ?_⟩
        · rw [et, unl_yes c]
          refine UL.snoc (qs := us) u2 (fun j q x h1 h2 => ?_) upd_same ?_
          · have := s10 _ _ (u3 j q x h1 h2)
            exact (upd_ne (fun z => by rw [z, u10] at this; cases this)).trans this
          · exact (upd_ne (fun z => by rw [z, u10] at e10; cases e10)).trans e10
        · rw [upd_ne n]; exact s10 _ _ (s5 _ _ (s4 _ _ (sm _ _ n h)))
      · have c : cnt fs "named" (.inr y) = uI sh (.inr y) := Decidable.byContradiction fun z => c (by
          show (!decide (V.int (cnt fs "named" (.inr y)) = V.int (uI sh (.inr y)))) = true
          rw [decide_eq_false fun e => z (V.int.inj e)]; rfl)
        walk_at "go"
        refine ⟨_, _, _, rfl, ?_, fun c x n h => s5 _ _ (s4 _ _ (sm _ _ n h))⟩
        rw [et, unl_no c]; exact u5
  · rintro σ H8 ⟨v4, v5, v6, rfl, ul, sm⟩
    walk_at "go"
    rw [List.length_map, show ns.length = (ns.map (Sum.inr : Str → Key)).length by rw [List.length_map], List.take_length] at ul
    exact k u _ H8 (fun c x e => sm _ _ (ne_of_none e hu) (s2 _ _ (s1 _ _ e))) hu srt ul
end
end K47

set_option hygiene false
set_option hygiene true
namespace K47
open PySem L2
def kD : Key → PyData
  | .inl i => .int i
  | .inr x => .str x
theorem datK {K : PySem.W.Frag} {H : Hp} (k : Key) : DatV K H (kV k) (kD k) := by
  cases k with
  | inl i => exact .int i
  | inr x => exact .str x
def KOk (k : Key) : Prop := ∀ x, k = .inr x → StrOk x
theorem KOk.tid {k : Key} (h : KOk k) : Tid 1 (kD k) := by
  cases k with
  | inl i => exact .int i
  | inr x => exact .str (h x rfl)
def uD (u : Un4) : PyData := .tuple [.str u.1, kD u.2.1, .int u.2.2.1, .int u.2.2.2]
theorem UnO.dat {K : PySem.W.Frag} {H : Hp} {q : Addr} {u : Un4} (h : UnO H q u) : DatV K H (.ref q) (uD u) := .tup (SqT.of h) (.cons (.str _) (.cons (datK _) (.cons (.int _) (.cons (.int _) .nil))))
theorem uD_tid {u : Un4} (h1 : StrOk u.1) (h2 : KOk u.2.1) : Tid 2 (uD u) := Tid.tuple fun d hd => by
  simp only [List.mem_cons, List.not_mem_nil, or_false] at hd
  rcases hd with rfl | rfl | rfl | rfl
  · exact .str h1
  · exact h2.tid
  · exact .int _
  · exact .int _
def UsOk (us : List Un4) : Prop := us.length < 1000 ∧ ∀ u ∈ us, StrOk u.1 ∧ KOk u.2.1
theorem kit_sb (K : PySem.W.Frag) : PySem.W.kitOne K (.type "str") (.type "bool") = some false := by
  unfold PySem.W.kitOne PySem.W.kitCls
  rw [if_neg (by decide)]
  have h1 : PySem.W.kitMeta "bool" = true := by decide +kernel
  simp only [h1, if_true]
  show Option.map (fun x => x.contains (Value.type "bool")) (fastBuiltinMro "str") = some false
  decide +kernel
theorem kV_nb (K : PySem.W.Frag) (H : Hp) (k : Key) : ∃ tv, TyE K H (kV k) tv ∧ PySem.W.kitOne K tv (clsV (V.ty "bool")) = some false := by
  cases k with
  | inl i => exact ⟨_, .of (.int i), kit_ib K⟩
  | inr x => exact ⟨_, .of (.str x), kit_sb K⟩
def spSameU : Sp := fun vs H Q _ => ∃ (p q : Addr) (us : List Un4), vs = [.ref p, .ref q] ∧ UL H p us ∧ UL H q us ∧ UsOk us ∧ Q (.bl true) H
section
variable (P : Program) {w : World} {K : PySem.W.Frag} {mg : Str → Option Value} (base : Heap) {a : Adr} {dvs : List V}
theorem ok__law_same (R : RawF K mg "_law_same" (top 15) ["_law_found", "_law_due"] dvs) (T : Txt K mg a)
    (h__law_whole : HasFn P w K mg base 1 "_law_whole" ["_law_found"] (spWhole) []) :
    HasFn P w K mg base 2 "_law_same" ["_law_found", "_law_due"] (spSameU) dvs := by
  refine R.ok sc__law_same (by walk_at "l0") ?_
  intro f cdv A outer s H vs Q E hr
  rintro ⟨p, q, us, rfl, up, uq, ok, k⟩
  refine L2.xl ?_
  intro X _ _
  refine ⟨_, (pss_cons (ps_if (PW.pt (pw_or (pt_not (pt_val (pe_callB call_isinst (by rfl) T.b_isinstance PyProof.Rows.Boot.«isinstance» (pa_c (pv 0) (pa_1 (pe_bltn (v := .ty "list") (by rfl) T.b_list PyProof.Rows.Boot.«list» rfl)))))) (pw_or1 (pt_cmpR op_ne (pe_callB call_len_seq (by rfl) T.b_len PySem.boot_len (pa_1 (pv 0))) (pe_callB call_len_seq (by rfl) T.b_len PySem.boot_len (pa_1 (pv 1))) (nomark _))))) (pss_one (ps_ret pe_bl)) pss_nil)
      (pss_cons (ps_for own_def rfl (pi_range1 (by rfl) T.b_range (pa_1 (pe_callB call_len_seq (by rfl) T.b_len PySem.boot_len (pa_1 (pv 1))))) (pg_name (i := 2) sc__law_same.nd rfl (by first | exact Or.inl rfl | exact Or.inr rfl))
      (pss_cons (ps_if (PW.pt (pw_or (pt_not (pt_val (pe_callB call_isinst (by rfl) T.b_isinstance PyProof.Rows.Boot.«isinstance» (pa_c (pe_x ix_list (pv 0) (pv 2)) (pa_1 (pe_bltn (v := .ty "tuple") (by rfl) T.b_tuple PyProof.Rows.Boot.«tuple» rfl)))))) (pw_or1 (pt_cmpR (op_neD hr.units) (pe_x ix_list (pv 0) (pv 2)) (pe_x ix_list (pv 1) (pv 2)) (nomark _))))) (pss_one (ps_ret pe_bl)) pss_nil)
      (pss_one (ps_if (PW.pt (pw_or (pt_not (pt_val (pe_fn h__law_whole hr.m (by rfl) pass_def (pa_1 (pe_x ix_tup (pe_x ix_list (pv 0) (pv 2)) pe_int))))) (pw_or (pt_not (pt_val (pe_fn h__law_whole hr.m (by rfl) pass_def (pa_1 (pe_x ix_tup (pe_x ix_list (pv 0) (pv 2)) pe_int))))) (pw_or1 (pt_val (pe_callB call_isinst (by rfl) T.b_isinstance PyProof.Rows.Boot.«isinstance» (pa_c (pe_x ix_tup (pe_x ix_list (pv 0) (pv 2)) pe_int) (pa_1 (pe_bltn (v := .ty "bool") (by rfl) T.b_bool PyProof.Rows.Boot.«bool» rfl))))))))) (pss_one (ps_ret pe_bl)) pss_nil))))
      (pss_one (ps_ret pe_bl)))), ?_⟩
  obtain ⟨l1, a1, a2, a3⟩ := up
  obtain ⟨l2, b1, b2, b3⟩ := uq
  have el : (!decide (V.int ((l1.map V.ref).length : Int) = V.int ((l2.map V.ref).length : Int))) = false := by rw [List.length_map, List.length_map, a2, b2, decide_eq_true rfl]; rfl
  walk_at "go"
  refine iteB (fun c => absurd (el.symm.trans c) (by decide)) (fun _ => ?_)
  clear el
  have j0 : -2 ^ 62 ≤ ((l2.map V.ref).length : Int) := by omega
  have j1 : ((l2.map V.ref).length : Int) < 2 ^ 62 := by rw [List.length_map, b2]; have := ok.1; omega
  walk_at "go"
  have lz : ((l2.map V.ref).length : Int).toNat = us.length := by rw [List.length_map, b2]; rfl
  refine for_range (fun i σ H' => Bx (H' = H ∧ ∃ v2 : Option V, σ = [some (.ref p), some (.ref q), v2])) ⟨rfl, _, rfl⟩ ?_ ?_
  · rintro i σ H2 hi ⟨rfl, v2, rfl⟩
    have ui : i < us.length := by rw [← lz]; exact hi
    have x1 : l1[i]? = some l1[i] := List.getElem?_eq_getElem (by omega)
    have x2 : l2[i]? = some l2[i] := List.getElem?_eq_getElem (by omega)
    have o1 := a3 i _ us[i] x1 (List.getElem?_eq_getElem ui)
    have o2 := b3 i _ us[i] x2 (List.getElem?_eq_getElem ui)
    have m1 : atI (l1.map V.ref) (0 + (i : Int)) = some (.ref l1[i]) := by rw [Int.zero_add]; exact atI_nat (by rw [List.getElem?_map, x1]; rfl)
    have m2 : atI (l2.map V.ref) (0 + (i : Int)) = some (.ref l2[i]) := by rw [Int.zero_add]; exact atI_nat (by rw [List.getElem?_map, x2]; rfl)
    obtain ⟨k1, k2⟩ := ok.2 us[i] (List.getElem_mem ui)
    have ti := uD_tid k1 k2
    generalize us[i] = un at *
    generalize l1[i] = r1 at *
    generalize l2[i] = r2 at *
    have d1 := o1.dat (K := K)
    have d2 := o2.dat (K := K)
    unfold UnO at o1
    walk_at "go"
    refine rNeD_self d1 d2 ti ?_
    obtain ⟨tv, te, kt⟩ := kV_nb K H2 un.2.1
    walk_at "go"
    refine iteF ?_
    walk_at "go"
    exact ⟨rfl, _, rfl⟩
  · rintro σ H2 ⟨rfl, v2, rfl⟩
    walk_at "go"
    exact k
end
end K47

set_option hygiene false
set_option hygiene true
namespace K47
open PySem L2
theorem RowsA.put {H : Hp} {u : Addr} {ya yb : List V} {qs : List Addr} {fs : List Lf} (hu : H u = some (.lst ya)) (h : RowsA H qs fs) : RowsA (upd H u (.lst yb)) qs fs :=
  ⟨h.1, fun i q f e1 e2 => by
    obtain ⟨w, g, k, l, q1, q2, q3⟩ := h.2 i q f e1 e2
    exact ⟨w, g, k, l, (upd_ne fun z => by rw [z, hu] at q1; cases q1).trans q1, (upd_ne fun z => by rw [z, hu] at q2; cases q2).trans q2, q3⟩⟩
theorem RowsA.snoc {H : Hp} {qs : List Addr} {fs : List Lf} {q : Addr} {f : Lf} (h : RowsA H qs fs) (o : RowO H q f) : RowsA H (qs ++ [q]) (fs ++ [f]) := by
  refine ⟨by simp [h.1], fun i r g e1 e2 => ?_⟩
  by_cases c : i < qs.length
  · rw [List.getElem?_append_left c] at e1
    rw [List.getElem?_append_left (by rw [← h.1]; exact c)] at e2
    exact h.2 i r g e1 e2
  · rw [List.getElem?_append_right (by omega)] at e1
    rw [List.getElem?_append_right (by rw [← h.1]; omega), ← h.1] at e2
    cases z : i - qs.length with
    | zero =>
      rw [z] at e1 e2
      cases e1; cases e2; exact o
    | succ n => rw [z] at e1; cases e1
theorem rowsA_nil {H : Hp} : RowsA H [] [] := ⟨rfl, fun i q f e => by cases e⟩
theorem shL_nil {H : Hp} {p : Addr} (h : H p = some (.lst [])) : ShL H p [] := ⟨[], h, rfl, fun i q t e => by cases e⟩
theorem lf_tid {nm : List Str} {f : Lf} (h : LfOk nm f) {K : PySem.W.Frag} {H : Hp} {l : Addr} (e : H l = some (.tup f.row)) : ∃ d, DatV K H (.ref l) d ∧ Tid 2 d := by
  have wok : ∀ w : Str, w = "fresh" ∨ w = "held" ∨ w = "out" ∨ w = "named" → StrOk w := fun w h => by
    rcases h with rfl | rfl | rfl | rfl <;> (unfold StrOk; decide +kernel)
  cases f with
  | fr r =>
    refine ⟨.tuple [.str "fresh", .int r], .tup (SqT.of e) (.cons (.str _) (.cons (.int _) .nil)), Tid.tuple fun d hd => ?_⟩
    simp only [List.mem_cons, List.not_mem_nil, or_false] at hd
    rcases hd with rfl | rfl
    · exact .str (wok _ (.inl rfl))
    · exact .int _
  | nu o r n =>
    refine ⟨.tuple [.str (if o then "out" else "held"), .int r, .int n], .tup (SqT.of e) (.cons (.str _) (.cons (.int _) (.cons (.int _) .nil))), Tid.tuple fun d hd => ?_⟩
    simp only [List.mem_cons, List.not_mem_nil, or_false] at hd
    rcases hd with rfl | rfl | rfl
    · refine .str (wok _ ?_)
      cases o
      · exact .inr (.inl rfl)
      · exact .inr (.inr (.inl rfl))
    · exact .int _
    · exact .int _
  | na r x m =>
    refine ⟨.tuple [.str "named", .int r, .str x, .int m], .tup (SqT.of e) (.cons (.str _) (.cons (.int _) (.cons (.str _) (.cons (.int _) .nil)))), Tid.tuple fun d hd => ?_⟩
    simp only [List.mem_cons, List.not_mem_nil, or_false] at hd
    rcases hd with rfl | rfl | rfl | rfl
    · exact .str (wok _ (.inr (.inr (.inr rfl))))
    · exact .int _
    · exact .str h.2
    · exact .int _
theorem RowO.dat {nm : List Str} {K : PySem.W.Frag} {H : Hp} {q : Addr} {f : Lf} (h : RowO H q f) (ok : LfOk nm f) : ∃ d, DatV K H (.ref q) d ∧ Tid 3 d := by
  obtain ⟨w, g, k, l, q1, q2, q3, q4⟩ := h
  obtain ⟨d, h1, h2⟩ := lf_tid ok (K := K) q2
  refine ⟨.tuple [.str w, kD g, .int k, d], .tup (SqT.of q1) (.cons (.str _) (.cons (datK _) (.cons (.int _) (.cons h1 .nil)))), Tid.tuple fun e he => ?_⟩
  simp only [List.mem_cons, List.not_mem_nil, or_false] at he
  rcases he with rfl | rfl | rfl | rfl
  · exact Tid.mono (.str q3) (by decide)
  · exact Tid.mono (KOk.tid q4) (by decide)
  · exact Tid.mono (.int _) (by decide)
  · exact h2
theorem dat_refs {K : PySem.W.Frag} {H : Hp} {n : Nat} : ∀ {qs : List Addr}, (∀ q ∈ qs, ∃ d, DatV K H (.ref q) d ∧ Tid n d) → ∃ ds, DatAll K H (qs.map V.ref) ds ∧ ∀ d ∈ ds, Tid n d
  | [], _ => ⟨[], .nil, fun d h => by cases h⟩
  | q :: qs, h => by
    obtain ⟨d, h1, h2⟩ := h q (List.mem_cons_self ..)
    obtain ⟨ds, g1, g2⟩ := dat_refs fun r m => h r (List.mem_cons_of_mem _ m)
    refine ⟨d :: ds, .cons h1 g1, fun e me => ?_⟩
    rcases List.mem_cons.mp me with z | m
    · rw [z]; exact h2
    · exact g2 e m
theorem RowsA.dat {nm : List Str} {K : PySem.W.Frag} {H : Hp} {qs : List Addr} {fs : List Lf} (h : RowsA H qs fs) (ok : ∀ f ∈ fs, LfOk nm f) : ∃ ds, DatAll K H (qs.map V.ref) ds ∧ ∀ d ∈ ds, Tid 3 d :=
  dat_refs fun q m => by
    obtain ⟨i, e⟩ := List.getElem?_of_mem m
    have il : i < fs.length := by rw [← h.1]; exact (List.getElem?_eq_some_iff.mp e).1
    have ef : fs[i]? = some fs[i] := List.getElem?_eq_getElem il
    exact (h.2 i q _ e ef).dat (ok _ (List.getElem_mem il))
theorem ShL.dat {K : PySem.W.Frag} {H : Hp} {ts : List Addr} {sh : List (Str × Int × Int)} (h2 : ts.length = sh.length) (h3 : ∀ (i : Nat) q t, ts[i]? = some q → sh[i]? = some t → ShO H q t) (ok : ∀ t ∈ sh, StrOk t.1) : ∃ ds, DatAll K H (ts.map V.ref) ds ∧ ∀ d ∈ ds, Tid 2 d :=
  dat_refs fun q m => by
    obtain ⟨i, e⟩ := List.getElem?_of_mem m
    have il : i < sh.length := by rw [← h2]; exact (List.getElem?_eq_some_iff.mp e).1
    have o := h3 i q sh[i] e (List.getElem?_eq_getElem il)
    have so := ok _ (List.getElem_mem il)
    generalize sh[i] = t at o so
    refine ⟨.tuple [.str t.1, .int t.2.1, .int t.2.2], .tup (SqT.of o) (.cons (.str _) (.cons (.int _) (.cons (.int _) .nil))), Tid.tuple fun e he => ?_⟩
    simp only [List.mem_cons, List.not_mem_nil, or_false] at he
    rcases he with rfl | rfl | rfl
    · exact .str so
    · exact .int _
    · exact .int _
theorem unl_ok {w : Str} {f g : Key → Int} {ks : List Key} {P : Key → Prop} (hw : StrOk w) (s : Srt ks P) (hp : ∀ k, P k → KOk k) : ∀ u ∈ unl w f g ks, StrOk u.1 ∧ KOk u.2.1 := fun u m => by
  unfold unl at m
  obtain ⟨k, mk, rfl⟩ := List.mem_map.mp m
  exact ⟨hw, hp k ((s.mem k).mp (List.mem_filter.mp mk).1)⟩
theorem PI.ok {fs : List Lf} {kd : Str} {cs : List Int} {k : Key} (ko : kd = "held" ∨ kd = "out") (g0 : Ge0 fs) (h : PI fs kd cs k) : KOk k := fun x e => by
  obtain ⟨n, rfl, _⟩ := h.nn ko g0
  cases e
theorem Srt.len {ks l : List Key} {P : Key → Prop} (s : Srt ks P) (h : ∀ k, P k → k ∈ l) : ks.length ≤ l.length := List.Nodup.length_le_of_subset s.nd fun k m => h k ((s.mem k).mp m)
theorem PI.mem {fs : List Lf} {kd : Str} {cs : List Int} {k : Key} (h : PI fs kd cs k) : k ∈ fs.map gK ++ rngK cs.length := by
  rcases h with h | ⟨j, jl, rfl⟩
  · obtain ⟨f, mf, h1, h2⟩ := cnt_ne h
    exact List.mem_append_left _ (List.mem_map.mpr ⟨f, mf, by unfold gK; rw [h2]; rfl⟩)
  · exact List.mem_append_right _ (List.mem_map.mpr ⟨j, List.mem_range.mpr jl, rfl⟩)
theorem lfOk_ge {nm : List Str} {fs : List Lf} (h : ∀ f ∈ fs, LfOk nm f) : Ge0 fs := fun f m o r n e => by
  have := h f m
  rw [e] at this
  exact this
theorem lfOk_nm {nm : List Str} {fs : List Lf} {sh : List (Str × Int × Int)} (h : ∀ f ∈ fs, LfOk nm f) (h2 : ∀ t ∈ sh, t.1 ∈ nm) (h3 : nm.length < 60) : NmIn fs sh nm := ⟨fun f m r x mm e => by
  have := h f m
  rw [e] at this
  exact this.1, h2, h3⟩
def dueU (fs : List Lf) (cf cs : List Int) (sh : List (Str × Int × Int)) (k1 k2 k3 : List Key) : List Un4 := unl "frame" (cnt fs "held") (cI cf) k1 ++ unl "slot" (cnt fs "out") (cI cs) k2 ++ unl "share" (cnt fs "named") (uI sh) k3
theorem uI_ne {sh : List (Str × Int × Int)} {k : Key} (h : uI sh k ≠ 0) : ∃ t ∈ sh, k = .inr t.1 := by
  rw [← (usD_ok sh).2.1 k, mem_keys]
  unfold uI vI at h
  cases e : valV (usD sh) k with
  | none => rw [e] at h; exact absurd rfl h
  | some v => rfl
theorem due_one {fs : List Lf} {cf cs : List Int} {sh : List (Str × Int × Int)} {nm : List Str} {k1 k2 k3 j1 j2 j3 : List Key} (ni : NmIn fs sh nm) (a1 : Srt k1 (PI fs "held" cf)) (a2 : Srt k2 (PI fs "out" cs)) (a3 : Srt k3 (PN fs sh)) (b1 : Srt j1 (PI fs "held" cf)) (b2 : Srt j2 (PI fs "out" cs)) (b3 : Srt j3 (fun k => ∃ x ∈ nm, k = Sum.inr x)) : unl "frame" (cnt fs "held") (cI cf) k1 ++ unl "slot" (cnt fs "out") (cI cs) k2 ++ unl "share" (cnt fs "named") (uI sh) k3 = dueU fs cf cs sh j1 j2 j3 := by
  unfold dueU
  rw [a1.one b1, a2.one b2]
  congr 1
  refine unl_one a3 b3 fun k ne => ?_
  have pn : PN fs sh k := by
    by_cases c : cnt fs "named" k = 0
    · exact .inr (uI_ne fun z => ne (by rw [c, z]))
    · exact .inl c
  refine ⟨pn, ?_⟩
  rcases pn with h | ⟨t, mt, rfl⟩
  · obtain ⟨f, mf, h1, h2⟩ := cnt_ne h
    obtain ⟨r, x, m, e, rfl⟩ := kd_inr h1 h2
    exact ⟨x, ni.1 f mf r x m e, rfl⟩
  · exact ⟨t.1, ni.2.1 t mt, rfl⟩
theorem due_ok {fs : List Lf} {cf cs : List Int} {sh : List (Str × Int × Int)} {nm : List Str} {j1 j2 j3 : List Key} (g0 : Ge0 fs) (fl : fs.length < 70) (c1 : cf.length < 20) (c2 : cs.length < 20) (nl : nm.length < 60) (so : ∀ x ∈ nm, StrOk x) (b1 : Srt j1 (PI fs "held" cf)) (b2 : Srt j2 (PI fs "out" cs)) (b3 : Srt j3 (fun k => ∃ x ∈ nm, k = Sum.inr x)) : UsOk (dueU fs cf cs sh j1 j2 j3) := by
  have l1 := b1.len fun k h => h.mem
  have l2 := b2.len fun k h => h.mem
  have l3 := b3.len (l := nm.map Sum.inr) fun k ⟨x, m, e⟩ => List.mem_map.mpr ⟨x, m, e.symm⟩
  rw [List.length_append, List.length_map, rngK, List.length_map, List.length_range] at l1 l2
  rw [List.length_map] at l3
  unfold dueU
  constructor
  · rw [List.length_append, List.length_append]
    have := unl_len (w := "frame") (f := cnt fs "held") (g := cI cf) (ks := j1)
    have := unl_len (w := "slot") (f := cnt fs "out") (g := cI cs) (ks := j2)
    have := unl_len (w := "share") (f := cnt fs "named") (g := uI sh) (ks := j3)
    omega
  · intro u m
    rcases List.mem_append.mp m with m | m
    · rcases List.mem_append.mp m with m | m
      · exact unl_ok (by unfold StrOk; decide +kernel) b1 (fun k h => h.ok (.inl rfl) g0) u m
      · exact unl_ok (by unfold StrOk; decide +kernel) b2 (fun k h => h.ok (.inr rfl) g0) u m
    · exact unl_ok (by unfold StrOk; decide +kernel) b3 (fun k ⟨x, mx, e⟩ y e2 => Sum.inr.inj (e.symm.trans e2) ▸ so x mx) u m
end K47

set_option hygiene false
set_option hygiene true
namespace K47
open PySem L2
theorem unlI_len {fs : List Lf} {kd w : Str} {cs : List Int} {f g : Key → Int} {j : List Key} (b : Srt j (PI fs kd cs)) : (unl w f g j).length ≤ fs.length + cs.length := by
  have l1 := b.len fun k h => h.mem
  rw [List.length_append, List.length_map, rngK, List.length_map, List.length_range] at l1
  exact Nat.le_trans unl_len l1
theorem unlN_len {w : Str} {nm : List Str} {f g : Key → Int} {j : List Key} (b : Srt j (fun k => ∃ x ∈ nm, k = Sum.inr x)) : (unl w f g j).length ≤ nm.length := by
  have l3 := b.len (l := nm.map Sum.inr) fun k ⟨x, m, e⟩ => List.mem_map.mpr ⟨x, m, e.symm⟩
  rw [List.length_map] at l3
  exact Nat.le_trans unl_len l3
structure F47 (fs : List Lf) (cf cs : List Int) (sh : List (Str × Int × Int)) (nm : List Str) (ts : List Addr) (due : List Un4) : Prop where
  fl : fs.length < 65
  lf : ∀ f ∈ fs, LfOk nm f
  cfl : cf.length < 20
  csl : cs.length < 20
  shl : sh.length ≤ 3
  snd : (sh.map (·.1)).Nodup
  sin : ∀ t ∈ sh, t.1 ∈ nm
  nl : nm.length = 3
  nd : nm.Nodup
  so : ∀ v ∈ nm, StrOk v
  tl : ts.length = sh.length
  dok : UsOk due
  one : ∀ k1 k2 k3, Srt k1 (PI fs "held" cf) → Srt k2 (PI fs "out" cs) → Srt k3 (PN fs sh) → unl "frame" (cnt fs "held") (cI cf) k1 ++ unl "slot" (cnt fs "out") (cI cs) k2 ++ unl "share" (cnt fs "named") (uI sh) k3 = due
structure W47 (H : Hp) (pn u pf ps ph du hd g1 g2 g3 g4 : Addr) (qs ts : List Addr) (fs : List Lf) (cf cs : List Int) (sh : List (Str × Int × Int)) (nm : List Str) (due : List Un4) : Prop where
  nm : H pn = some (.lst (nm.map V.str))
  row : H u = some (.lst (qs.map V.ref))
  ra : RowsA H qs fs
  fr : H pf = some (.lst (cf.map V.int))
  sl : H ps = some (.lst (cs.map V.int))
  sp : H ph = some (.lst (ts.map V.ref))
  so : ∀ (i : Nat) q t, ts[i]? = some q → sh[i]? = some t → ShO H q t
  ul : UL H du due
  c1 : H g1 = some (.lst (qs.map V.ref))
  c2 : H g2 = some (.lst (cf.map V.int))
  c3 : H g3 = some (.lst (cs.map V.int))
  c4 : H g4 = some (.lst (ts.map V.ref))
  hd : H hd = some (.tup [.ref g1, .ref g2, .ref g3, .ref g4])
theorem W47.same {H H' : Hp} {pn u pf ps ph du hd g1 g2 g3 g4 : Addr} {qs ts : List Addr} {fs : List Lf} {cf cs : List Int} {sh : List (Str × Int × Int)} {nm : List Str} {due : List Un4} (h : W47 H pn u pf ps ph du hd g1 g2 g3 g4 qs ts fs cf cs sh nm due) (s : Same H H') : W47 H' pn u pf ps ph du hd g1 g2 g3 g4 qs ts fs cf cs sh nm due :=
  ⟨s _ _ h.nm, s _ _ h.row, h.ra.same s, s _ _ h.fr, s _ _ h.sl, s _ _ h.sp, fun i q t a b => s _ _ (h.so i q t a b), h.ul.same s, s _ _ h.c1, s _ _ h.c2, s _ _ h.c3, s _ _ h.c4, s _ _ h.hd⟩
theorem srt_nil {ks : List Key} {P : Key → Prop} (s : Srt ks P) (h : ∀ k, ¬ P k) : ks = [] := List.eq_nil_iff_forall_not_mem.mpr fun k m => h k ((s.mem k).mp m)
theorem cnt_nil {kd : Str} {k : Key} : cnt [] kd k = 0 := rfl
def spLaw (K : PySem.W.Frag) : Sp := fun vs H Q _ => ∃ (a : Addr) (ns : List Int), vs = [.ref a] ∧ SqL K H a (ns.map V.int) ∧ ns.length ≤ 63 ∧ ∀ H', Q (.bl true) H'
section
variable (P : Program) {w : World} {K : PySem.W.Frag} {mg : Str → Option Value} (base : Heap) {a : Adr} {dvs : List V}
theorem ok_law {f : Addr} {oc : Value} {od : Option Addr} {dV kV doc pm : Value} {an : Option Addr} {cdv ct : Value} {osl : Array (Option Value)} (lk : K.lookup f = some ⟨oc, od, .func (PySem.W.fnOf "law" "law" (defArgs s_law) (defBody s_law) (defScope s_law) dV kV doc pm an cdv ct), osl⟩) (hcd : PySem.W.codeIn K cdv "law" = true) (T : Txt K mg a)
    (h__law_cell_at : HasFn P w K mg base 1 "_law_cell_at" ["_law_script", "_law_k"] (spCell K) [])
    (h__law_names : HasFn P w K mg base 2 "_law_names" ["_law_cell"] (spNames3) [])
    (h__law_row : HasFn P w K mg base 2 "_law_row" ["_law_cell", "_law_k", "_law_names_here"] (spRow) [])
    (h__law_counts : HasFn P w K mg base 2 "_law_counts" ["_law_rows", "_law_kind", "_law_cell"] (spCnts) [])
    (h__law_uses : HasFn P w K mg base 2 "_law_uses" ["_law_rows", "_law_names_here", "_law_cell"] (spUses) [])
    (h__law_numbers : HasFn P w K mg base 2 "_law_numbers" ["_law_rows", "_law_word", "_law_kind", "_law_counts_here"] (spNums) [])
    (h__law_names_due : HasFn P w K mg base 2 "_law_names_due" ["_law_rows", "_law_shares", "_law_names_here"] (spNmD) [])
    (h_tallied : HasFn P w K mg base 2 "tallied" ["rows", "frames", "slots", "shares"] (spTal) [])
    (h__law_same : HasFn P w K mg base 2 "_law_same" ["_law_found", "_law_due"] (spSameU) []) :
    FnOk P w K mg base (CXE P w) 3 f (PySem.W.fnOf "law" "law" (defArgs s_law) (defBody s_law) (defScope s_law) dV kV doc pm an cdv ct) ["_law_script"] (spLaw K) := by
  refine fn_of lk hcd sc_law (by walk_at "l0") fun A outer s H vs Q E hr => ?_
  rintro ⟨sc, ss, rfl, hS, hlen, k⟩
  refine L2.xl ?_
  intro X _ _
  let R15 : {t : TS // PSs X ((defBody s_law).drop 15) t} := ⟨_, (pss_cons (ps_sl 9 sc_law.nd (pe_op op_cat (pe_fn h__law_numbers hr.m (by rfl) pass_def (pa_c (pv 5) (pa_c pe_str (pa_c pe_str (pa_1 (pe_lst pa_nil)))))) (pe_fn h__law_numbers hr.m (by rfl) pass_def (pa_c (pv 5) (pa_c pe_str (pa_c pe_str (pa_1 (pe_lst pa_nil))))))))
      (pss_cons (ps_sl 9 sc_law.nd (pe_op op_cat (pv 9) (pe_fn h__law_names_due hr.m (by rfl) pass_def (pa_c (pv 5) (pa_c (pe_lst pa_nil) (pa_1 (pv 3)))))))
      (pss_one (ps_ret (pe_and (pe_fn h__law_same hr.m (by rfl) pass_def (pa_c (pe_fn h_tallied hr.m (by rfl) pass_def (pa_c (pe_lst pa_nil) (pa_c (pe_lst pa_nil) (pa_c (pe_lst pa_nil) (pa_1 (pe_lst pa_nil)))))) (pa_1 (pe_lst pa_nil)))) (pe_one (pe_fn h__law_same hr.m (by rfl) pass_def (pa_c (pe_fn h_tallied hr.m (by rfl) pass_def (pa_c (pv 5) (pa_c (pe_lst pa_nil) (pa_c (pe_lst pa_nil) (pa_1 (pe_lst pa_nil)))))) (pa_1 (pv 9))))))))))⟩
  let R12 : {t : TS // PSs X ((defBody s_law).drop 12) t} := ⟨_, (pss_cons (ps_if (PW.pt (pw_or (pt_not (pt_val (pe_fn h__law_same hr.m (by rfl) pass_def (pa_c (pv 11) (pa_1 (pv 9)))))) (pw_or1 (pt_cmpR (op_neD hr.units) (pv 10) (pe_tup (pa_c (pv 5) (pa_c (pv 6) (pa_c (pv 7) (pa_1 (pv 8)))))) (nomark _))))) (pss_one (ps_ret pe_bl)) pss_nil)
      (pss_cons (ps_expr (pe_bm PySem.F.plainAttrs_list PySem.F.slot_list_append PySem.F.type_list_append mt_append (pv 11) (pa_1 (pe_tup (pa_c pe_str (pa_c pe_int (pa_c pe_int (pa_1 pe_int))))))))
      (pss_cons (ps_if (pt_not (pt_val (pe_fn h__law_same hr.m (by rfl) pass_def (pa_c (pe_fn h_tallied hr.m (by rfl) pass_def (pa_c (pe_x ix_tup (pv 10) pe_int) (pa_c (pe_x ix_tup (pv 10) pe_int) (pa_c (pe_x ix_tup (pv 10) pe_int) (pa_1 (pe_x ix_tup (pv 10) pe_int)))))) (pa_1 (pv 9)))))) (pss_one (ps_ret pe_bl)) pss_nil)
      R15.2)))⟩
  refine ⟨_, (pss_cons (ps_sl 1 sc_law.nd (pe_fn h__law_cell_at hr.m (by rfl) pass_def (pa_c (pv 0) (pa_1 pe_int))))
      (pss_cons (ps_sl 2 sc_law.nd (pe_fn h__law_cell_at hr.m (by rfl) pass_def (pa_c (pv 0) (pa_1 pe_int))))
      (pss_cons (ps_sl 3 sc_law.nd (pe_fn h__law_names hr.m (by rfl) pass_def (pa_1 (pe_op op_fdiv (pv 1) pe_int))))
      (pss_cons (ps_sl 4 sc_law.nd (pe_slice sl_list (pv 0) (po_some pe_int) (po_some pe_int)))
      (pss_cons (ps_setC (j := 5) sc_law.nd rfl rfl (xs := ["_law_k"]) (N' := ["_law_script", "_law_one", "_law_other", "_law_names_here", "_law_cells", "_law_rows", "_law_frames", "_law_slots", "_law_shares", "_law_due", "_law_handed", "_law_found"]) rfl ⟨rfl, by decide +kernel, by decide +kernel, by dsimp only [X, cxOf, PyProof.Rows.envOfC]; decide +kernel, by decide +kernel, by dsimp only [X, cxOf]; decide +kernel, rfl⟩ (pi_range1 (by rfl) T.b_range (pa_1 (pe_callB call_len_seq (by rfl) T.b_len PySem.boot_len (pa_1 (pv 4))))) (fun _ _ _ _ _ => (pg_name (i := 0) (by dsimp only [X, cxComp]; decide +kernel) rfl (by first | exact Or.inl rfl | exact Or.inr rfl))) (fun _ _ _ _ _ => pts_nil) (fun _ _ _ _ _ => (pe_fn h__law_row hr.m (by rfl) pass_none (pa_c (pe_x (ix_listK (K := K) rfl) (pv 5) (pv 0)) (pa_c (pv 0) (pa_1 (pv 4)))))))
      (pss_cons (ps_sl 6 sc_law.nd (pe_fn h__law_counts hr.m (by rfl) pass_def (pa_c (pv 5) (pa_c pe_str (pa_1 (pv 1))))))
      (pss_cons (ps_sl 7 sc_law.nd (pe_fn h__law_counts hr.m (by rfl) pass_def (pa_c (pv 5) (pa_c pe_str (pa_1 (pv 2))))))
      (pss_cons (ps_sl 8 sc_law.nd (pe_fn h__law_uses hr.m (by rfl) pass_def (pa_c (pv 5) (pa_c (pv 3) (pa_1 (pe_op op_fdiv (pv 2) pe_int))))))
      (pss_cons (ps_sl 9 sc_law.nd (pe_op op_cat (pe_fn h__law_numbers hr.m (by rfl) pass_def (pa_c (pv 5) (pa_c pe_str (pa_c pe_str (pa_1 (pv 6)))))) (pe_fn h__law_numbers hr.m (by rfl) pass_def (pa_c (pv 5) (pa_c pe_str (pa_c pe_str (pa_1 (pv 7))))))))
      (pss_cons (ps_sl 9 sc_law.nd (pe_op op_cat (pv 9) (pe_fn h__law_names_due hr.m (by rfl) pass_def (pa_c (pv 5) (pa_c (pv 8) (pa_1 (pv 3)))))))
      (pss_cons (ps_sl 10 sc_law.nd (pe_tup (pa_c (pe_callTy call_list_of (by rfl) T.b_list PyProof.Rows.Boot.«list» (pa_1 (pv 5))) (pa_c (pe_callTy call_list_of (by rfl) T.b_list PyProof.Rows.Boot.«list» (pa_1 (pv 6))) (pa_c (pe_callTy call_list_of (by rfl) T.b_list PyProof.Rows.Boot.«list» (pa_1 (pv 7))) (pa_1 (pe_callTy call_list_of (by rfl) T.b_list PyProof.Rows.Boot.«list» (pa_1 (pv 8)))))))))
      (pss_cons (ps_sl 11 sc_law.nd (pe_fn h_tallied hr.m (by rfl) pass_def (pa_c (pe_x ix_tup (pv 10) pe_int) (pa_c (pe_x ix_tup (pv 10) pe_int) (pa_c (pe_x ix_tup (pv 10) pe_int) (pa_1 (pe_x ix_tup (pv 10) pe_int)))))))
      R12.2)))))))))))), ?_⟩
  have tail15 : ∀ (G : Hp) (o1 o2 : Int) (fo pn sl u pf ps ph du hd g1 g2 g3 g4 : Addr) (qs ts : List Addr) (fs : List Lf) (cf cs : List Int) (sh : List (Str × Int × Int)) (nm : List Str) (due : List Un4), W47 G pn u pf ps ph du hd g1 g2 g3 g4 qs ts fs cf cs sh nm due → F47 fs cf cs sh nm ts due → R15.1 { nx := fun x H' => Q V.non H', rt := Q } [some (.ref sc), some (.int o1), some (.int o2), some (.ref pn), some (.ref sl), some (.ref u), some (.ref pf), some (.ref ps), some (.ref ph), some (.ref du), some (.ref hd), some (.ref fo)] G := by
    intro G o1 o2 fo pn sl u pf ps ph du hd g1 g2 g3 g4 qs ts fs cf cs sh nm due W F
    have g0 := lfOk_ge F.lf
    have fl := F.fl
    have fl70 : fs.length < 70 := by omega
    have koh : ("held" : Str) = "held" ∨ ("held" : Str) = "out" := .inl rfl
    have koo : ("out" : Str) = "held" ∨ ("out" : Str) = "out" := .inr rfl
    have il : ([] : List Int).length < 20 := by decide
    have r0 := W.row
    have ra0 := W.ra
    have n0 := W.nm
    clear W
    walk_at "go"
    intro z1 hz1
    generalize hh : upd _ z1 _ = H1
    obtain ⟨s1, e1⟩ := newO hz1 hh
    clear hh
    have e1 : H1 z1 = some (.lst (([] : List Int).map V.int)) := e1
    have r1 := s1 _ _ r0
    have ra1 := ra0.same s1
    walk_at "go"
    intro d1 j1 H2 s2 hd1 b1 u2
    walk_at "go"
    intro z2 hz2
    generalize hh : upd _ z2 _ = H3
    obtain ⟨s3, e3⟩ := newO hz2 hh
    clear hh
    have e3 : H3 z2 = some (.lst (([] : List Int).map V.int)) := e3
    have s03 := (s1.trans s2).trans s3
    have r3 := s03 _ _ r0
    have ra3 := ra0.same s03
    walk_at "go"
    intro d2 j2 H4 s4 hd2 b2 u4
    have u24 := u2.same (s3.trans s4)
    obtain ⟨l1, a1, a2, a3⟩ := id u24
    obtain ⟨l2, x1, x2, x3⟩ := id u4
    have y1 := unlI_len (w := "frame") (f := cnt fs "held") (g := cI []) b1
    have y2 := unlI_len (w := "slot") (f := cnt fs "out") (g := cI []) b2
    have z12 : (l1.map V.ref).length + (l2.map V.ref).length ≤ sizeLine := by rw [List.length_map, List.length_map, a2, x2, sizeLine_eq]; omega
    walk_at "go"
    intro d12 hd12
    generalize hh : upd _ d12 _ = H5
    obtain ⟨s5, e5⟩ := newO hd12 hh
    clear hh
    have u5 := UL.cat (u24.same s5) (u4.same s5) (s5 _ _ a1) (s5 _ _ x1) e5
    clear a1 a2 a3 x1 x2 x3 z12 u24 u2 u4 r1 ra1 r3 ra3
    walk_at "go"
    intro z3 hz3
    generalize hh : upd _ z3 _ = H6
    obtain ⟨s6, e6⟩ := newO hz3 hh
    clear hh
    have s06 := ((s03.trans s4).trans s5).trans s6
    have r6 := s06 _ _ r0
    have ra6 := ra0.same s06
    have n6 := s06 _ _ n0
    have h6 := shL_nil e6
    have snl : ([] : List (Str × Int × Int)).length < 20 := by decide
    have snd : (([] : List (Str × Int × Int)).map (·.1)).Nodup := List.nodup_nil
    have nl20 : nm.length < 20 := by rw [F.nl]; decide
    have nd := F.nd
    walk_at "go"
    intro d3 j3 H7 s7 hd3 b3 u7
    have u67 := (u5.same s6).same s7
    obtain ⟨l3, v1, v2, v3⟩ := id u67
    obtain ⟨l4, w1, w2, w3⟩ := id u7
    have y3 := unlN_len (w := "share") (f := cnt fs "named") (g := uI []) b3
    have z34 : (l3.map V.ref).length + (l4.map V.ref).length ≤ sizeLine := by rw [List.length_map, List.length_map, v2, w2, List.length_append, sizeLine_eq]; omega
    walk_at "go"
    intro du2 hdu2
    generalize hh : upd _ du2 _ = H8
    obtain ⟨s8, e8⟩ := newO hdu2 hh
    clear hh
    have u8 := UL.cat (u67.same s8) (u7.same s8) (s8 _ _ v1) (s8 _ _ w1) e8
    have uok := due_ok (sh := []) g0 fl70 il il (by omega) F.so b1 b2 b3
    have u8 : UL H8 du2 (dueU fs [] [] [] j1 j2 j3) := u8
    have s08 := (s06.trans s7).trans s8
    clear v1 v2 v3 w1 w2 w3 z34 u67 u7 u5 r6 ra6 n6 h6
    walk_at "go"
    intro t1 ht1
    generalize hh : upd _ t1 _ = H9
    obtain ⟨s9, e9⟩ := newO ht1 hh
    clear hh
    walk_at "go"
    intro t2 ht2
    generalize hh : upd _ t2 _ = H10
    obtain ⟨s10, e10⟩ := newO ht2 hh
    clear hh
    walk_at "go"
    intro t3 ht3
    generalize hh : upd _ t3 _ = H11
    obtain ⟨s11, e11⟩ := newO ht3 hh
    clear hh
    walk_at "go"
    intro t4 ht4
    generalize hh : upd _ t4 _ = H12
    obtain ⟨s12, e12⟩ := newO ht4 hh
    clear hh
    have x1 : H12 t1 = some (.lst (([] : List Addr).map V.ref)) := ((s10.trans s11).trans s12) _ _ e9
    have x2 : H12 t2 = some (.lst (([] : List Int).map V.int)) := (s11.trans s12) _ _ e10
    have x3 : H12 t3 = some (.lst (([] : List Int).map V.int)) := s12 _ _ e11
    have x4 := shL_nil e12
    have x5 : RowsA H12 [] [] := rowsA_nil
    have x6 : ([] : List Lf).length < 65 := by decide
    have x7 : NmIn [] [] ([] : List Str) := ⟨fun f m => (by cases m), fun f m => (by cases m), by decide⟩
    walk_at "go"
    intro p1 c1 c2 c3 H13 s13 hp1 f1 f2 f3 u13
    have nI : ∀ kd k, ¬ PI [] kd [] k := fun kd k h => by
      rcases h with h | ⟨j, jl, _⟩
      · exact h cnt_nil
      · exact absurd jl (Nat.not_lt_zero _)
    have nN : ∀ k, ¬ PN [] [] k := fun k h => by
      rcases h with h | ⟨j, jl, _⟩
      · exact h cnt_nil
      · cases jl
    rw [srt_nil f1 (nI _), srt_nil f2 (nI _), srt_nil f3 nN] at u13
    have u13 : UL H13 p1 [] := u13
    clear x1 x2 x3 x4 x5 x6 x7
    walk_at "go"
    intro t5 ht5
    generalize hh : upd _ t5 _ = H14
    obtain ⟨s14, e14⟩ := newO ht5 hh
    clear hh
    have u14 := u13.same s14
    have v14 := UL.nil e14
    have ok0 : UsOk [] := ⟨by decide, fun u m => (by cases m)⟩
    walk_at "go"
    intro t6 ht6
    generalize hh : upd _ t6 _ = H15
    obtain ⟨s15, e15⟩ := newO ht6 hh
    clear hh
    walk_at "go"
    intro t7 ht7
    generalize hh : upd _ t7 _ = H16
    obtain ⟨s16, e16⟩ := newO ht7 hh
    clear hh
    walk_at "go"
    intro t8 ht8
    generalize hh : upd _ t8 _ = H17
    obtain ⟨s17, e17⟩ := newO ht8 hh
    clear hh
    have s817 : Same H8 H17 := (((((((s9.trans s10).trans s11).trans s12).trans s13).trans s14).trans s15).trans s16).trans s17
    have s017 := s08.trans s817
    have x1 := s017 _ _ r0
    have x2 : H17 t6 = some (.lst (([] : List Int).map V.int)) := (s16.trans s17) _ _ e15
    have x3 : H17 t7 = some (.lst (([] : List Int).map V.int)) := s17 _ _ e16
    have x4 := shL_nil e17
    have x5 := ra0.same s017
    have x7 : NmIn fs [] nm := lfOk_nm F.lf (fun f m => by cases m) (by omega)
    walk_at "go"
    intro p2 i1 i2 i3 H18 s18 hp2 o1' o2' o3' u18
    rw [due_one x7 o1' o2' o3' b1 b2 b3] at u18
    have d18 := u8.same (s817.trans s18)
    walk_at "go"
    exact k _
  have tail12 : ∀ (G0 G : Hp) (o1 o2 : Int) (fo pn sl u pf ps ph du hd g1 g2 g3 g4 : Addr) (qs ts : List Addr) (fs : List Lf) (cf cs : List Int) (sh : List (Str × Int × Int)) (nm : List Str) (due : List Un4), W47 G0 pn u pf ps ph du hd g1 g2 g3 g4 qs ts fs cf cs sh nm due → F47 fs cf cs sh nm ts due → Same G0 G → G0 fo = none → UL G fo due → R12.1 { nx := fun x H' => Q V.non H', rt := Q } [some (.ref sc), some (.int o1), some (.int o2), some (.ref pn), some (.ref sl), some (.ref u), some (.ref pf), some (.ref ps), some (.ref ph), some (.ref du), some (.ref hd), some (.ref fo)] G := by
    intro G0 G o1 o2 fo pn sl u pf ps ph du hd g1 g2 g3 g4 qs ts fs cf cs sh nm due W0 F s0 hfo uf
    have W := W0.same s0
    have ud := W.ul
    have dok := F.dok
    walk_at "go"
    intro tq htq
    generalize hh : upd _ tq _ = H1
    obtain ⟨s1, e1⟩ := newO htq hh
    clear hh
    have W1 := W.same s1
    obtain ⟨ds1, da1, ti1⟩ := W1.ra.dat (K := K) F.lf
    obtain ⟨ds2, da2, ti2⟩ := ShL.dat (K := K) F.tl W1.so fun t m => F.so _ (F.sin t m)
    refine rNeD_self (d := .tuple [.list ds1, .list (cf.map PyData.int), .list (cs.map PyData.int), .list ds2]) (n := 5) (.tup (SqT.of W1.hd) (.cons (.lst (SqL.of W1.c1) da1) (.cons (.lst (SqL.of W1.c2) (datAll_ints K _ _)) (.cons (.lst (SqL.of W1.c3) (datAll_ints K _ _)) (.cons (.lst (SqL.of W1.c4) da2) .nil))))) (.tup (SqT.of e1) (.cons (.lst (SqL.of W1.row) da1) (.cons (.lst (SqL.of W1.fr) (datAll_ints K _ _)) (.cons (.lst (SqL.of W1.sl) (datAll_ints K _ _)) (.cons (.lst (SqL.of W1.sp) da2) .nil))))) (Tid.tuple fun d hd => ?_) ?_
    · simp only [List.mem_cons, List.not_mem_nil, or_false] at hd
      rcases hd with rfl | rfl | rfl | rfl
      · exact Tid.list ti1
      · exact (Tid.ints _).mono (by decide)
      · exact (Tid.ints _).mono (by decide)
      · exact (Tid.list ti2).mono (by decide)
    obtain ⟨lf, f1, f2, f3⟩ := uf.same s1
    have fz : (lf.map V.ref).length < sizeLine := by rw [List.length_map, f2, sizeLine_eq]; have := dok.1; omega
    walk_at "go"
    intro tr htr
    generalize hh : upd _ tr _ = H2
    obtain ⟨s2, e2⟩ := newO htr hh
    clear hh
    have f12 := s2 _ _ f1
    have s02 : Same G0 H2 := (s0.trans s1).trans s2
    clear W1 da1 da2 ti1 ti2 ud W uf
    have s03 : Same G0 (upd H2 fo (.lst (lf.map V.ref ++ [.ref tr]))) := fun b x e => by rw [upd_ne (ne_of_none e hfo)]; exact s02 _ _ e
    have W3 := W0.same s03
    have p0 := W3.hd
    have p1 := W3.c1
    have p2 := W3.c2
    have p3 := W3.c3
    have p4 : ShL _ g4 sh := ⟨ts, W3.c4, F.tl, W3.so⟩
    have p5 := W3.ra
    have ni := lfOk_nm F.lf F.sin (by rw [F.nl]; decide)
    have y1 := F.fl
    have y2 := F.cfl
    have y3 := F.csl
    have y4 : sh.length < 20 := by have := F.shl; omega
    walk_at "go"
    intro fo2 m1 m2 m3 H4 s4 hf4 q1 q2 q3 u4
    rw [F.one m1 m2 m3 q1 q2 q3] at u4
    have W4 := W0.same (s03.trans s4)
    have v4 := W4.ul
    clear s03 W3 p0 p1 p2 p3 p4 p5
    repeat (first | exact tail15 _ _ _ _ _ _ _ _ _ _ _ _ _ _ _ _ _ _ _ _ _ _ _ _ W4 F | walk_at "i2")
  obtain ⟨ms, em, lm⟩ := cut_ints ss (some 2) (some 64)
  walk_at "go"
  intro pn x y z H1 hn ox oy oz nd3 s1 hpn
  have S1 := s1.seq hS
  walk_at "go"
  intro sl hsl
  generalize hh : upd _ sl _ = H2
  obtain ⟨s2, e2⟩ := newO hsl hh
  clear hh
  rw [em] at e2
  have n2 := s2 _ _ hn
  have j0 : -2 ^ 62 ≤ ((ms.map V.int).length : Int) := by omega
  have j1 : ((ms.map V.int).length : Int) < 2 ^ 62 := by rw [List.length_map]; omega
  walk_at "go"
  intro u hu
  have lz : (((ms.map V.int).length : Int)).toNat = ms.length := by rw [List.length_map]; rfl
  refine comp_rangeI (fun i ys H' => ∃ (qs : List Addr) (fs : List Lf), ys = qs.map V.ref ∧ H' u = some (.lst ys) ∧ RowsA H' qs fs ∧ qs.length = i ∧ (∀ f ∈ fs, LfOk [x, y, z] f) ∧ Same H2 H') (by rw [lz, sizeLine_eq]; omega) ⟨[], [], rfl, upd_same, rowsA_nil, rfl, fun f m => (by cases m), same_upd hu⟩ (fun i ys H2 h => ?_) (fun i ys H3 hi h R r => ?_) (fun ys H3 h => ?_)
  · obtain ⟨qs, fs, rfl, h1, _, h3, _⟩ := h
    exact ⟨h1, by rw [List.length_map]; exact h3⟩
  · obtain ⟨qs, fs, rfl, h1, h2, h3, h4, h5⟩ := h
    have am : atI (ms.map V.int) (0 + (i : Int)) = some (.int (ms.getD i 0)) := by
      rw [Int.zero_add]
      exact atI_nat (by rw [List.getElem?_map, List.getD_eq_getElem?_getD, List.getElem?_eq_getElem (by omega)]; rfl)
    have n3 := h5 _ _ n2
    have e3 := h5 _ _ e2
    walk_at "go"
    intro q lf H4 s4 ro lo
    refine r _ H4 (s4 _ _ h1) ⟨qs ++ [q], fs ++ [lf], by rw [List.map_append]; rfl, upd_same, RowsA.put (s4 _ _ h1) ((h2.same s4).snoc ro), by rw [List.length_append, h3]; rfl, fun f m => ?_, fun b x e => ?_⟩
    · rcases List.mem_append.mp m with m | m
      · exact h4 f m
      · rw [List.mem_singleton.mp m]; exact lo
    · rw [upd_ne (ne_of_none e hu)]; exact s4 _ _ (h5 _ _ e)
  · obtain ⟨qs, fs, rfl, h1, h2, h3, h4, h5⟩ := h
    have fl : fs.length < 65 := by rw [← h2.1, h3, lz]; omega
    have g0 := lfOk_ge h4
    have n3 : H3 pn = some (.lst ([x, y, z].map V.str)) := h5 _ _ n2
    have so : ∀ v ∈ [x, y, z], StrOk v := fun v m => by
      simp only [List.mem_cons, List.not_mem_nil, or_false] at m
      rcases m with rfl | rfl | rfl <;> assumption
    have nl : [x, y, z].length = 3 := rfl
    generalize [x, y, z] = nm at *
    have fl70 : fs.length < 70 := by omega
    have koh : ("held" : Str) = "held" ∨ ("held" : Str) = "out" := .inl rfl
    have koo : ("out" : Str) = "held" ∨ ("out" : Str) = "out" := .inr rfl
    walk_at "go"
    intro pf cf H4 s4 hpf f4 cfl
    have r4 := s4 _ _ h1
    have ra4 := h2.same s4
    walk_at "go"
    intro ps cs H5 s5 hps c5 csl
    have s35 := s4.trans s5
    have r5 := s35 _ _ h1
    have ra5 := h2.same s35
    have n5 := s35 _ _ n3
    walk_at "go"
    intro ph sh H6 s6 hph h6 shl snd sin
    have s36 := s35.trans s6
    have r6 := s36 _ _ h1
    have ra6 := h2.same s36
    have f6 := (s5.trans s6) _ _ f4
    have ni := lfOk_nm h4 sin (by omega)
    have sho : ∀ t ∈ sh, StrOk t.1 := fun t m => so _ (sin t m)
    walk_at "go"
    intro d1 j1 H7 s7 hd1 b1 u7
    have s37 := s36.trans s7
    have r7 := s37 _ _ h1
    have ra7 := h2.same s37
    have c7 := (s6.trans s7) _ _ c5
    walk_at "go"
    intro d2 j2 H8 s8 hd2 b2 u8
    have u78 := u7.same s8
    obtain ⟨l1, a1, a2, a3⟩ := id u78
    obtain ⟨l2, x1, x2, x3⟩ := id u8
    have y1 := unlI_len (w := "frame") (f := cnt fs "held") (g := cI cf) b1
    have y2 := unlI_len (w := "slot") (f := cnt fs "out") (g := cI cs) b2
    have z12 : (l1.map V.ref).length + (l2.map V.ref).length ≤ sizeLine := by rw [List.length_map, List.length_map, a2, x2, sizeLine_eq]; omega
    walk_at "go"
    intro d12 hd12
    generalize hh : upd _ d12 _ = H9
    obtain ⟨s9, e9⟩ := newO hd12 hh
    clear hh
    have u9 := UL.cat (u78.same s9) (u8.same s9) (s9 _ _ a1) (s9 _ _ x1) e9
    have s39 := (s37.trans s8).trans s9
    have r9 := s39 _ _ h1
    have ra9 := h2.same s39
    have h9 := h6.same ((s7.trans s8).trans s9)
    have n9 := s39 _ _ n3
    have shl20 : sh.length < 20 := by omega
    have nl20 : nm.length < 20 := by omega
    walk_at "go"
    intro d3 j3 H10 s10 hd3 b3 u10
    have u910 := u9.same s10
    obtain ⟨l3, v1, v2, v3⟩ := id u910
    obtain ⟨l4, w1, w2, w3⟩ := id u10
    have y3 := unlN_len (w := "share") (f := cnt fs "named") (g := uI sh) b3
    have z34 : (l3.map V.ref).length + (l4.map V.ref).length ≤ sizeLine := by rw [List.length_map, List.length_map, v2, w2, List.length_append, sizeLine_eq]; omega
    walk_at "go"
    intro du hdu
    generalize hh : upd _ du _ = H11
    obtain ⟨s11, e11⟩ := newO hdu hh
    clear hh
    have uD := UL.cat (u910.same s11) (u10.same s11) (s11 _ _ v1) (s11 _ _ w1) e11
    have uok := due_ok (sh := sh) g0 fl70 cfl csl (by omega) so b1 b2 b3
    have uD : UL H11 du (dueU fs cf cs sh j1 j2 j3) := uD
    have s3b := (s39.trans s10).trans s11
    have rb := s3b _ _ h1
    have rab := h2.same s3b
    have fb := ((((((s5.trans s6).trans s7).trans s8).trans s9).trans s10).trans s11) _ _ f4
    have cb := (((((s6.trans s7).trans s8).trans s9).trans s10).trans s11) _ _ c5
    have hb := (h9.same s10).same s11
    have nb := s3b _ _ n3
    clear u7 u8 u78 u9 u10 u910 a1 a2 a3 x1 x2 x3 v1 v2 v3 w1 w2 w3 z12 z34 r9 ra9 h9 n9 r7 ra7 c7 r6 ra6 f6 r5 ra5 n5 r4 ra4 h6 c5 f4
    walk_at "go"
    intro g1 hg1
    generalize hh : upd _ g1 _ = H12
    obtain ⟨s12, e12⟩ := newO hg1 hh
    clear hh
    have fc := s12 _ _ fb
    have cc := s12 _ _ cb
    obtain ⟨ts, t1, t2, t3⟩ := id (hb.same s12)
    walk_at "go"
    intro g2 hg2
    generalize hh : upd _ g2 _ = H13
    obtain ⟨s13, e13⟩ := newO hg2 hh
    clear hh
    have cd := s13 _ _ cc
    have td := s13 _ _ t1
    walk_at "go"
    intro g3 hg3
    generalize hh : upd _ g3 _ = H14
    obtain ⟨s14, e14⟩ := newO hg3 hh
    clear hh
    have te := s14 _ _ td
    walk_at "go"
    intro g4 hg4
    generalize hh : upd _ g4 _ = H15
    obtain ⟨s15, e15⟩ := newO hg4 hh
    clear hh
    walk_at "go"
    intro hd hhd
    generalize hh : upd _ hd _ = H16
    obtain ⟨s16, e16⟩ := newO hhd hh
    clear hh
    have s13' : Same H12 H16 := ((s13.trans s14).trans s15).trans s16
    have s12' : Same H11 H16 := s12.trans s13'
    have p1 := s13' _ _ e12
    have p2 := ((s14.trans s15).trans s16) _ _ e13
    have p3 := (s15.trans s16) _ _ e14
    have p4 : ShL H16 g4 sh := ⟨ts, s16 _ _ e15, t2, fun i q t a b => s13' _ _ (t3 i q t a b)⟩
    have rap := rab.same s12'
    walk_at "go"
    intro fo m1 m2 m3 H17 s17 hfo q1 q2 q3 uF
    rw [due_one ni q1 q2 q3 b1 b2 b3] at uF
    have W : W47 H16 pn u pf ps ph du hd g1 g2 g3 g4 qs ts fs cf cs sh nm (dueU fs cf cs sh j1 j2 j3) := ⟨s12' _ _ nb, s12' _ _ rb, rap, s12' _ _ fb, s12' _ _ cb, s13' _ _ t1, fun i q t a b => s13' _ _ (t3 i q t a b), uD.same s12', p1, p2, p3, s16 _ _ e15, e16⟩
    have F : F47 fs cf cs sh nm ts (dueU fs cf cs sh j1 j2 j3) := ⟨fl, h4, cfl, csl, shl, snd, sin, nl, nd3, so, t2, uok, fun k1 k2 k3 a1 a2 a3 => due_one ni a1 a2 a3 b1 b2 b3⟩
    repeat (first | exact tail12 _ _ _ _ _ _ _ _ _ _ _ _ _ _ _ _ _ _ _ _ _ _ _ _ _ W F s17 hfo uF | walk_at "i2")
end
end K47

namespace L2
open PySem PySem.Spec PyProof.Rows
section
variable {P : List Value → Prop}
theorem u0 (h : P []) : ∀ us : List Value, us.length = 0 → P us
  | [], _ => h
theorem uS {n : Nat} (h : ∀ (a : Value) (us : List Value), us.length = n → P (a :: us)) : ∀ us : List Value, us.length = n + 1 → P us
  | a :: us, e => h a us (Nat.succ.inj e)
theorem u1 (h : ∀ a : Value, P [a]) : ∀ us : List Value, us.length = 1 → P us := uS fun a => u0 (h a)
theorem u2 (h : ∀ a b : Value, P [a, b]) : ∀ us : List Value, us.length = 2 → P us := uS fun a => u1 (P := fun us => P (a :: us)) (h a)
theorem u3 (h : ∀ a b c : Value, P [a, b, c]) : ∀ us : List Value, us.length = 3 → P us := uS fun a => u2 (P := fun us => P (a :: us)) (h a)
theorem u4 (h : ∀ a b c d : Value, P [a, b, c, d]) : ∀ us : List Value, us.length = 4 → P us := uS fun a => u3 (P := fun us => P (a :: us)) (h a)
end
def BA (nm q : Str) (st : Stmt) (ps : List Str) : Prop := ∀ (kV doc pm : Value) (an : Option Addr) (cdv ct : Value) (us : List Value), us.length = ps.length →
  bindArgs (PySem.W.fnOf nm q (defArgs st) (defBody st) (defScope st) .none kV doc pm an cdv ct) ⟨us, []⟩ = pure (ps.zip us)
section
variable {K : PySem.W.Frag} {h : Heap} {mg : Str → Option Value} {C f : Addr} {x m q : Str} {st : Stmt} {ps : List Str} {oc kV doc pm cdv ct : Value} {od an : Option Addr} {sl : Array (Option Value)}
theorem RawF.of (X : K.In h) (G : h.Ns mainGlobals mg) (a : PySem.W.nsIn K mainGlobals x = some (some (.ref f))) (l : K.lookup f = some ⟨oc, od, .func (PySem.W.fnOf x x (defArgs st) (defBody st) (defScope st) .none kV doc pm an cdv ct), sl⟩)
    (c : PySem.W.codeIn K cdv x = true) (k : PySem.W.keepIn K (.ref f) = true) (b : BA x x st ps) : RawF K mg x st ps [] :=
  ⟨f, oc, od, .none, kV, doc, pm, an, cdv, ct, sl, [], l, c, k, PySem.W.mg_of X G a, .all (b _ _ _ _ _ _), .nil⟩
end
end L2

namespace K47
open PySem L2
theorem all_mk {l : PySem.W.OpenLaw} {w : World} {K : PySem.W.Frag} {h : Heap} {mg : Str → Option Value} {fa f15 : Addr} (X : K.In h) (G : h.Ns mainGlobals mg) (hfa : mg "law" = some (.ref fa))
    {od15 an15 : Option Addr} {sl15 : Array (Option Value)} {oc15 kV15 dc15 pm15 cd15 ct15 : Value}
    (a15 : PySem.W.nsIn K mainGlobals "law" = some (some (.ref f15)))
    (l15 : K.lookup f15 = some ⟨oc15, od15, .func (PySem.W.fnOf "law" "law" (defArgs s_law) (defBody s_law) (defScope s_law) .none kV15 dc15 pm15 an15 cd15 ct15), sl15⟩)
    (c15 : PySem.W.codeIn K cd15 "law" = true)
    (k15 : PySem.W.keepIn K (.ref f15) = true)
    (r1 : RawF K mg "unlike_counts" (top 2) ["what", "named", "counts"] [])
    (r2 : RawF K mg "named_by" (top 1) ["rows", "kind"] [])
    (r3 : RawF K mg "_law_drawn" (top 7) ["_law_cell", "_law_by", "_law_prime", "_law_many_here"] [])
    (r4 : RawF K mg "_law_many" (top 10) ["_law_rows", "_law_kind", "_law_one"] [])
    (r5 : RawF K mg "_law_whole" (top 6) ["_law_found"] [])
    (r6 : RawF K mg "_law_cell_at" (top 5) ["_law_script", "_law_k"] [])
    (r7 : RawF K mg "_law_names" (top 8) ["_law_cell"] [])
    (r8 : RawF K mg "_law_row" (top 9) ["_law_cell", "_law_k", "_law_names_here"] [])
    (r9 : RawF K mg "_law_counts" (top 11) ["_law_rows", "_law_kind", "_law_cell"] [])
    (r10 : RawF K mg "_law_uses" (top 12) ["_law_rows", "_law_names_here", "_law_cell"] [])
    (r11 : RawF K mg "_law_numbers" (top 13) ["_law_rows", "_law_word", "_law_kind", "_law_counts_here"] [])
    (r12 : RawF K mg "_law_names_due" (top 14) ["_law_rows", "_law_shares", "_law_names_here"] [])
    (r13 : RawF K mg "tallied" (top 3) ["rows", "frames", "slots", "shares"] [])
    (r14 : RawF K mg "_law_same" (top 15) ["_law_found", "_law_due"] [])
    (TA : TxA K mg ⟨⟩) :
    ∃ fd : FuncData, (∀ (s : Shared) (v : Value), BindsTo s fd ⟨[v], []⟩ [("_law_script", v)]) ∧ ∀ base : Heap, K.In base → base.Ns mainGlobals mg → FnOk l.prog w K mg base (CXE l.prog w) 3 fa fd ["_law_script"] (spLaw K) := by
  have e := hfa.symm.trans (PySem.W.mg_of X G a15)
  cases e
  have T : Txt K mg ⟨⟩ := ⟨TA⟩
  refine ⟨PySem.W.fnOf "law" "law" (defArgs s_law) (defBody s_law) (defScope s_law) .none kV15 dc15 pm15 an15 cd15 ct15, fun s v => .of_eq rfl, fun base _ _ => ?_⟩
  have h__law_cell_at := ok__law_cell_at l.prog (w := w) base r6 T 
  have h__law_drawn := ok__law_drawn l.prog (w := w) base r3 T 
  have h__law_names := ok__law_names l.prog (w := w) base r7 T h__law_drawn
  have h__law_row := ok__law_row l.prog (w := w) base r8 T h__law_drawn
  have h__law_many := ok__law_many l.prog (w := w) base r4 T 
  have h__law_counts := ok__law_counts l.prog (w := w) base r9 T h__law_many h__law_drawn
  have h__law_uses := ok__law_uses l.prog (w := w) base r10 T h__law_many
  have h__law_numbers := ok__law_numbers l.prog (w := w) base r11 T h__law_many
  have h__law_names_due := ok__law_names_due l.prog (w := w) base r12 T h__law_many
  have h_unlike_counts := ok_unlike_counts l.prog (w := w) base r1 T 
  have h_named_by := ok_named_by l.prog (w := w) base r2 T 
  have h_tallied := ok_tallied l.prog (w := w) base r13 T h_unlike_counts h_named_by
  have h__law_whole := ok__law_whole l.prog (w := w) base r5 T 
  have h__law_same := ok__law_same l.prog (w := w) base r14 T h__law_whole
  exact ok_law l.prog base l15 c15 T h__law_cell_at h__law_names h__law_row h__law_counts h__law_uses h__law_numbers h__law_names_due h_tallied h__law_same
theorem walk {l : PySem.W.OpenLaw} {q : Program} {loose : List Str} {XP : (Str → Option Value) → Heap → Prop} {YP : World → Heap → Prop} {d : DefRec} {K : Params → PySem.W.Frag} (hn : l.most = some 63) (hdf : d.params.defaults = [])
    (hY : ∀ (w : World) (h : Heap), YP w h → (K w.params).In h)
    (F : ∀ (w : World) (mg : Str → Option Value) (fa : Addr) (h : Heap), (K w.params).In h → h.Ns mainGlobals mg → mg d.name = some (.ref fa) →
      ∃ fd : FuncData, (∀ (s : Shared) (u : Value), BindsTo s fd ⟨[u], []⟩ [("_law_script", u)]) ∧ ∀ base : Heap, (K w.params).In base → base.Ns mainGlobals mg → FnOk l.prog w (K w.params) mg base (CXE l.prog w) 3 fa fd ["_law_script"] (spLaw (K w.params))) :
    PySem.W.WalkO q loose XP YP l.row.toRowW d [] (fun f vs => PySem.call f vs) :=
  L2.walk_of (n := 63) (k := 3) (x := "_law_script") (CX := fun w => CXE l.prog w) (sp := fun w => spLaw (K w.params)) hn (by decide) hdf ⟨rfl, by decide, by decide⟩ hY F (fun _ _ a ns hl _ hS => ⟨a, ns, rfl, hS, hl, fun _ => rfl⟩) fun _ _ _ _ _ z => by
    obtain ⟨_, _, _, _, _, _, _, _, _, _, q⟩ := z
    exact q
end K47

namespace L2
open PySem PySem.W
def live (x : Obj) : Option Obj := match x with
  | ⟨_, _, .freed, _⟩ => none
  | o => some o
noncomputable def pick (l : List Obj) : Nat → List Nat → List (Option Obj) :=
  @List.rec Obj (fun _ => Nat → List Nat → List (Option Obj)) (fun _ _ => [])
    (fun o _ ih i as => @List.rec Nat (fun _ => List (Option Obj)) [] (fun a r _ => @Bool.rec (fun _ => List (Option Obj)) (ih (Nat.add i 1) as) (live o :: ih (Nat.add i 1) r) (Nat.beq i a)) as) l
noncomputable def told (K : Frag) : List (Option Obj) := @List.rec (Addr × Obj) (fun _ => List (Option Obj)) [] (fun p _ r => some p.2 :: r) K
theorem pick_of : ∀ (l : List Obj) (i : Nat) (K : Frag), pick l i (K.map (·.1)) = told K → ∀ p ∈ K, ∃ j, p.1 = i + j ∧ (l[j]?).bind live = some p.2
  | [], i, K, e, p, hp => by
    cases K with
    | nil => cases hp
    | cons q r => exact absurd e (by intro x; exact nomatch (x : ([] : List (Option Obj)) = some q.2 :: told r))
  | o :: l, i, [], e, p, hp => by cases hp
  | o :: l, i, q :: r, e, p, hp => by
    have e' : @Bool.rec (fun _ => List (Option Obj)) (pick l (i + 1) ((q :: r).map (·.1))) (live o :: pick l (i + 1) (r.map (·.1))) (Nat.beq i q.1) = some q.2 :: told r := e
    cases hb : Nat.beq i q.1 with
    | false =>
      rw [hb] at e'
      obtain ⟨j, h1, h2⟩ := pick_of l (i + 1) (q :: r) e' p hp
      exact ⟨j + 1, h1.trans (by rw [Nat.add_assoc, Nat.add_comm 1 j]), by simpa using h2⟩
    | true =>
      rw [hb] at e'
      injection e' with a b
      rcases List.mem_cons.mp hp with rfl | hp
      · exact ⟨0, (Nat.eq_of_beq_eq_true hb).symm, by simpa using a⟩
      · obtain ⟨j, h1, h2⟩ := pick_of l (i + 1) r b p hp
        exact ⟨j + 1, h1.trans (by rw [Nat.add_assoc, Nat.add_comm 1 j]), by simpa using h2⟩
theorem live_get {h : Heap} {a : Addr} {o : Obj} (e : (h.objs.toList[a]?).bind live = some o) : h.get? a = some o := by
  rw [Array.getElem?_toList] at e
  unfold Heap.get?
  cases hx : h.objs[a]? with
  | none => rw [hx] at e; cases e
  | some x =>
    rw [hx] at e
    obtain ⟨c, d, dt, sl⟩ := x
    cases dt <;> first | (cases e; done) | (cases e; rfl)
theorem lookup_mem : ∀ {K : Frag} {a : Addr} {o : Obj}, K.lookup a = some o → (a, o) ∈ K
  | [], _, _, e => by cases e
  | (b, x) :: r, a, o, e => by
    rw [List.lookup_cons] at e
    cases h : a == b with
    | true => rw [h] at e; cases e; rw [eq_of_beq h]; exact .head _
    | false => rw [h] at e; exact .tail _ (lookup_mem e)
noncomputable def hook (K : Params → Frag) (as : List Addr) (e : ∀ P, as = (K P).map (·.1)) : Hook :=
  ⟨List (Option Obj), fun s => pick s.heap.objs.toList 0 as, fun w => told (K w.params), InK K, fun w s x a o l => by
    obtain ⟨j, h1, h2⟩ := pick_of _ _ _ ((e w.params) ▸ x) _ (lookup_mem l)
    have h1 : a = 0 + j := h1
    rw [Nat.zero_add] at h1
    subst h1
    exact live_get h2, InK.keeps⟩
theorem hIn_of {K : Params → Frag} {as : List Addr} {e : ∀ P, as = (K P).map (·.1)} {w : World} {h : Heap} (Y : (hook K as e).says w h) : (K w.params).In h := Y
end L2

local macro_rules | `(tactic| walk_at "bu") => `(tactic| first | exact fun _ _ _ _ _ _ => L2.u1 fun _ => rfl | exact fun _ _ _ _ _ _ => L2.u2 fun _ _ => rfl | exact fun _ _ _ _ _ _ => L2.u3 fun _ _ _ => rfl | exact fun _ _ _ _ _ _ => L2.u4 fun _ _ _ _ => rfl | exact fun _ _ _ _ _ _ => L2.u5 fun _ _ _ _ _ => rfl | exact fun _ _ _ _ _ _ => L2.u6 fun _ _ _ _ _ _ => rfl | exact fun _ _ _ _ _ _ => L2.u7 fun _ _ _ _ _ _ _ => rfl | exact fun _ _ _ _ _ _ => L2.u8 fun _ _ _ _ _ _ _ _ => rfl | exact fun _ _ _ _ _ _ => L2.u9 fun _ _ _ _ _ _ _ _ _ => rfl | exact fun _ _ _ _ _ _ => L2.u0 rfl)
local macro_rules | `(tactic| walk_at "zz") => `(tactic| first | (with_reducible show (_ == PySem.sysModules) = false; exact rfl) | (refine' L2.NeC.mk ?a ?b ?c; (case a => k_is); (case b => k_is); (case c => k_is)) | (refine' L2.RawM.of ?a ?l ?c ?k ?i ?b; (case a => k_is); (case l => k_is); (case c => k_is); (case k => k_is); (case i => k_is); (case b => walk_at "bu")) | (refine' L2.RawF.of (by assumption) (by assumption) ?a ?l ?c ?k ?b; (case a => k_is); (case l => k_is); (case c => k_is); (case k => k_is); (case b => walk_at "bu")) | (refine' L2.RawI.of ?a ?l ?c ?k ?i ?j ?b; (case a => k_is); (case l => k_is); (case c => k_is); (case k => k_is); (case i => k_is); (case j => k_is); (case b => walk_at "bu")) | (refine' L2.Cls.mk ?a ?b ?c ?d <;> k_is) | (refine' L2.XIs.mk ?a ?b ?c ?d ?e ?f <;> k_is) | (refine' L2.XL.mk' ?a ?b; (case a => k_is); (case b => first | rfl | decide +kernel)) | k_is | kit_is | k_exc | k_keys | rfl)
local macro_rules | `(tactic| walk_at "zt") => `(tactic| first | ((with_reducible show L2.NoAttr _ _ _); show PySem.W.findIn _ _ _ = _; k_is) | ((with_reducible show L2.XCls _ _); show PySem.W.excIn _ _ _ _ = _; k_exc) | (refine' PySem.W.mg_of (by assumption) (by assumption) ?_; k_is) | (refine' PySem.W.mg_none_of (by assumption) (by assumption) ?_; k_is) | (refine' L2.gT ?a ?b ?c ?d ?e; (case a => walk_at "zz"); (case b => k_is); (case c => k_is); (case d => k_is); (case e => k_is)) | (refine' L2.IsK.mk ?a ?b; (case a => k_is); (case b => k_is)) | (refine' L2.gD ?a ?b ?c; (case a => k_is); (case b => k_keys); (case c => rfl)) | walk_at "zz")
local macro_rules | `(tactic| o_head ($f:ident $k $a $p)) => if f.getId.eraseMacroScopes.getString! == "kHook" then `(tactic| o_head (L2.hook $k $a $p)) else Lean.Macro.throwUnsupported
open PySem PySem.W PyProof.Rows
set_option maxHeartbeats 0 in
theorem PySem.Challenge.cw_leafframe_k47_tallied_holds : PySem.Challenge.rw_leafframe_k47_tallied.Holds := by
  w_on; o_law; k_head; (case hw => w_witness2)
  k_fill
  refine K47.walk (l := PySem.Challenge.rw_leafframe_k47_tallied) rfl rfl (fun w h Y => L2.hIn_of Y) ?F
  case F =>
    intro w mg fa h KX G hmg
    apply K47.all_mk KX G hmg
    all_goals first | (apply K47.TxA.mk <;> (try dsimp only) <;> walk_at "zt") | walk_at "zz" | skip
    all_goals first | rfl | exact rfl | decide
