import PyProof.Rows.All
import Wide.All
import OpenK.AllK
import Wide.FinOn
import PyProof.EqAt
import PyProof.EqKinds
import PyProof.TupleCall
import KE.BitLaws
import PyVbahas
import KE.KSortTupG
import KE.KSortKey
import KE.KMinKey
import KE.KDictSum
import PyProof.ListRange
import PySem.Challenge.RW_slothouse_s01_answers
import Open.SpecLaws
import KE.OsHead
import KE.OsGo
set_option Elab.async false
set_option linter.all false
set_option maxRecDepth 100000
set_option maxHeartbeats 4000000
section
namespace L2
open PySem PySem.Spec PyProof.Rows
abbrev Key := Sum Int Str
def keyIs : Key -> Value -> Bool
 | .inl k, v => Value.isInt k v
 | .inr x, v => Value.isStrOf x v
def keyH (w : World) : Key -> Int
 | .inl k => hashInt k
 | .inr x => hashStr w x
theorem keyIs_shape : ∀ {k : Key} {v : Value}, keyIs k v = true -> (∃ i t, k = Sum.inl i /\ v = Value.int i t) \/ (∃ x t, k = Sum.inr x /\ v = Value.str x t)
 | .inl i, v, h => by
  obtain ⟨t, e⟩ := Value.isInt_shape (k := i) (v := v) h
  exact .inl ⟨i, t, rfl, e⟩
 | .inr x, v, h => by
  obtain ⟨t, e⟩ := Value.isStrOf_shape (x := x) (v := v) h
  exact .inr ⟨x, t, rfl, e⟩
theorem keyIs_int (i : Int) (t : Tok) : keyIs (.inl i) (.int i t) = true := by simp [keyIs, Value.isInt]
theorem keyIs_str (x : Str) (t : Tok) : keyIs (.inr x) (.str x t) = true := by simp [keyIs, Value.isStrOf]
theorem key_ll (a b : Int) : decide ((Sum.inl a : Key) = Sum.inl b) = (a == b) := by
 by_cases e : a = b
 ·subst e; simp
 ·have h : ¬ (Sum.inl a : Key) = Sum.inl b := fun q => e (Sum.inl.inj q)
  rw [decide_eq_false h]
  exact (beq_eq_false_iff_ne.mpr e).symm
theorem key_rr (a b : Str) : decide ((Sum.inr a : Key) = Sum.inr b) = decide (a = b) := by
 by_cases e : a = b
 ·subst e; simp
 ·have h : ¬ (Sum.inr a : Key) = Sum.inr b := fun q => e (Sum.inr.inj q)
  rw [decide_eq_false h, decide_eq_false e]
theorem key_lr (a : Int) (b : Str) : decide ((Sum.inl a : Key) = Sum.inr b) = false := decide_eq_false (fun q => nomatch q)
theorem key_rl (a : Str) (b : Int) : decide ((Sum.inr a : Key) = Sum.inl b) = false := decide_eq_false (fun q => nomatch q)
def mixKind (prog : Program) (w : World) : PySem.KeyKind prog w Key where
 is := keyIs
 hash := keyH w
 inj := fun v a b ha hb => by
  rcases keyIs_shape ha with ⟨i, t, rfl, rfl⟩ | ⟨x, t, rfl, rfl⟩
  ·rcases keyIs_shape hb with ⟨j, u, rfl, e⟩ | ⟨y, u, rfl, e⟩
   ·injection e with e1 _; rw [e1]
   ·exact nomatch e
  ·rcases keyIs_shape hb with ⟨j, u, rfl, e⟩ | ⟨y, u, rfl, e⟩
   ·exact nomatch e
   ·injection e with e1 _; rw [e1]
 byValue := fun k v h => by
  rcases keyIs_shape h with ⟨i, t, rfl, rfl⟩ | ⟨x, t, rfl, rfl⟩ <;> rfl
 pyHash := fun hv h => by
  rcases keyIs_shape hv with ⟨i, t, rfl, rfl⟩ | ⟨x, t, rfl, rfl⟩
  ·exact wpAny_pyHash_int h
  ·exact wpAny_pyHash_str h
 eqBool := fun hu hv h => by
  rcases keyIs_shape hu with ⟨i, t, rfl, rfl⟩ | ⟨x, t, rfl, rfl⟩
  ·rcases keyIs_shape hv with ⟨j, u, rfl, rfl⟩ | ⟨y, u, rfl, rfl⟩
   ·rw [key_ll] at h; exact wpAny_eqBool_int h
   ·rw [key_lr] at h; exact SeqAt.EqAt.int_str i t y u _ _ _ _ h
  ·rcases keyIs_shape hv with ⟨j, u, rfl, rfl⟩ | ⟨y, u, rfl, rfl⟩
   ·rw [key_rl] at h; exact SeqAt.EqAt.str_int x t j u _ _ _ _ h
   ·rw [key_rr] at h; exact wpAny_eqBool_str h
 «strs» := fun k x t v h => by
  rcases keyIs_shape h with ⟨i, u, rfl, e⟩ | ⟨y, u, rfl, e⟩
  ·exact nomatch e
  ·injection e with e1 _
   subst e1
   cases v <;> rfl
theorem mixKind_int (prog : Program) (w : World) (i : Int) (t : Tok) : (mixKind prog w).is (.inl i) (.int i t) = true := keyIs_int i t
theorem mixKind_str (prog : Program) (w : World) (x : Str) (t : Tok) : (mixKind prog w).is (.inr x) (.str x t) = true := keyIs_str x t
end L2
namespace L2
open PySem PySem.Spec PyProof.Rows
inductive V where
 | non | bl (b : Bool) | int (i : Int) | str (x : Str) | byt (b : Array UInt8) | flt (b : UInt64) | ref (a : Addr) | ty (n : String)
 deriving DecidableEq
def RelV : V -> Value -> Prop
 | .non, u => u = Value.none
 | .bl b, u => u = Value.bool b
 | .int i, u => ∃ t, u = Value.int i t
 | .str x, u => ∃ t, u = Value.str x t
 | .byt b, u => ∃ t, u = Value.bytes b t
 | .flt b, u => ∃ t, u = Value.float b t
 | .ref a, u => u = Value.ref a
 | .ty n, u => u = Value.type n
abbrev Vals : List V -> List Value -> Prop := Paired RelV
theorem Vals.length {xs : List V} {us : List Value} (r : Vals xs us) : xs.length = us.length := Paired.length r
theorem Vals.get : ∀ {xs : List V} {us : List Value} {i : Nat} {x : V}, Vals xs us -> xs[i]? = some x -> ∃ u, us[i]? = some u /\ RelV x u
 | _, _, _, _, .nil, e => by simp at e
 | _, _, 0, _, .cons r _, e => by simp at e; subst e; exact ⟨_, rfl, r⟩
 | _, _, i + 1, x, .cons _ t, e => by
  obtain ⟨u, h1, h2⟩ := Vals.get (i := i) (x := x) t (by simpa using e)
  exact ⟨u, by simpa using h1, h2⟩
theorem Vals.append : ∀ {xs ys : List V} {us ws : List Value}, Vals xs us -> Vals ys ws -> Vals (xs ++ ys) (us ++ ws)
 | _, _, _, _, .nil, s => s
 | _, _, _, _, .cons r t, s => .cons r (Vals.append t s)
theorem Vals.take : ∀ {xs : List V} {us : List Value} (n : Nat), Vals xs us -> Vals (xs.take n) (us.take n)
 | _, _, 0, _ => .nil
 | _, _, _ + 1, .nil => .nil
 | _, _, n + 1, .cons r t => .cons r (Vals.take n t)
theorem Vals.drop : ∀ {xs : List V} {us : List Value} (n : Nat), Vals xs us -> Vals (xs.drop n) (us.drop n)
 | _, _, 0, r => r
 | _, _, _ + 1, .nil => .nil
 | _, _, n + 1, .cons _ t => Vals.drop n t
def RelO : Option V -> Option Value -> Prop
 | some v, some u => RelV v u
 | none, none => True
 | _, _ => False
def KV {κ : Type} : List (κ × V) -> List (κ × Value) -> Prop := Paired fun (p : κ × V) (q : κ × Value) => p.1 = q.1 /\ RelV p.2 q.2
def kV : Key -> V
 | .inl i => .int i
 | .inr x => .str x
inductive HO where
  | lst (xs : List V)
  | tup (xs : List V)
  | dK (kvs : List (Key × V)) | dT (kvs : List (List Key × V))
  | set (S : Int -> Bool) (n : Nat)
  | ins (C dx : Addr) (fs : List (Str × V))
  | own (x : Addr)
  | xd (fs : List (Str × V))
  | met (f x : Addr)
  | rng (lo hi : Int)
  | frz (o : Obj) (u : HO)
  | tbl (ps : Array Value)
  | ext (φ : Heap -> Prop)
abbrev Hp := Addr -> Option HO
def upd (H : Hp) (a : Addr) (o : HO) : Hp := fun b => if b = a then some o else H b
theorem uS {H : Hp} {a : Addr} {o : HO} : upd H a o a = some o := by unfold upd; rw [if_pos rfl]
theorem uN {H : Hp} {a b : Addr} {o : HO} (h : b ≠ a) : upd H a o b = H b := by unfold upd; rw [if_neg h]
theorem ne_of {H : Hp} {a b : Addr} {o u : HO} (h : H a = some o) (h' : H b = some u) (d : o ≠ u) : a ≠ b := by
 intro e; subst e; rw [h] at h'; exact d (Option.some.inj h')
theorem nN {H : Hp} {a b : Addr} {o : HO} (h : H a = some o) (h' : H b = none) : a ≠ b := by
 intro e; subst e; rw [h] at h'; cases h'
section
variable (P : Program) (w : World)
def ObjOk (H : Hp) (h : Heap) (a : Addr) : HO -> Prop
 | .lst xs => xs.length <= sizeLine /\ ∃ (its : List Value) (n : Nat), Vals xs its /\ h.get? a = some { cls := .type "list", data := .seq its.toArray n }
 | .tup xs => xs.length <= sizeLine /\ ∃ its : List Value, Vals xs its /\ IsTup h a its.toArray
 | .dK kvs => kvs.length <= sizeLine /\ (a == sysModules) = false /\ ∃ vs, KV kvs vs /\ h.DictOf (mixKind P w) a vs
 | .dT kvs => kvs.length <= sizeLine /\ (a == sysModules) = false /\ ∃ xs : List (List Key × Addr × Value),
   Paired (fun (p : List Key × V) (q : List Key × Addr × Value) => p.1 = q.1 /\ H q.2.1 = some (.tup (p.1.map kV)) /\ RelV p.2 q.2.2) kvs xs /\
   ∃ o es ep, h.get? a = some o /\ o.ExactDict /\ o.data = .dict es ep /\ es.toList = xs.map (entryOfKey (tupleKind (mixKind P w))) /\ (xs.map (·.1)).Nodup
 | .set S n => h.SetOf (intKind P w) a S n
 | .ins C dx fs => H dx = some (.own a) /\ fs.length <= 1000 /\ dx ≠ a /\ h.get? a = some (PySem.W.instObj C dx) /\
   ∃ mA, h.Ns1 dx mA /\ (∀ f, RelO (fs.lookup f) (mA f)) /\ PySem.Within mA (fs.map (·.1))
 | .own _ => ∃ o, h.get? a = some o
 | .xd fs => ∃ mA, h.Ns1 a mA /\ ∀ f, RelO (fs.lookup f) (mA f)
 | .rng lo hi => ∃ t u v, h.get? a = some { cls := .type "range", data := .fields #[.int lo t, .int hi u, .int 1 v] }
 | .frz o u => h.get? a = some o /\ ObjOk H h a u
 | .tbl ps => h.get? a = some { cls := .none, data := .fields ps }
 | .met f x => h.get? a = some (PySem.W.methodObj (.ref f) (.ref x))
 | .ext φ => φ h /\ (∃ o, h.get? a = some o) /\ ∀ h1 h2 : Heap, φ h1 -> (∀ o, h1.get? a = some o -> h2.get? a = some o) -> φ h2
def HOk (H : Hp) (h : Heap) : Prop := ∀ a o, H a = some o -> ObjOk P w H h a o
end
section
variable {P : Program} {w : World} {H H' : Hp} {h h' : Heap} {a : Addr} {o : HO}
theorem ObjOk.lt (x : ObjOk P w H h a o) : a < h.objs.size := by
 cases o with
 | lst xs => obtain ⟨_, _, _, _, e⟩ := x; exact Heap.lt_size e
 | tup xs => obtain ⟨_, _, _, p⟩ := x; exact p.lt
 | dK kvs => obtain ⟨_, _, _, _, o, _, _, e, _⟩ := x; exact Heap.lt_size e
 | dT kvs => obtain ⟨_, _, _, _, o, _, _, e, _⟩ := x; exact Heap.lt_size e
 | set S n => obtain ⟨o, _, _, _, e, _⟩ := x; exact Heap.lt_size e
 | ins C dx fs => obtain ⟨_, _, _, e, _⟩ := x; exact Heap.lt_size e
 | own y => obtain ⟨_, e⟩ := x; exact Heap.lt_size e
 | xd fs => obtain ⟨_, ⟨_, _, _, e, _⟩, _⟩ := x; exact Heap.lt_size e
 | rng lo hi => obtain ⟨_, _, _, e⟩ := x; exact Heap.lt_size e
 | frz ob u => obtain ⟨e, _⟩ := x; exact Heap.lt_size e
 | tbl ps => exact Heap.lt_size (show h.get? a = some _ from x)
 | met f y => exact Heap.lt_size (show h.get? a = some _ from x)
 | ext φ => obtain ⟨_, ⟨_, e⟩, _⟩ := x; exact Heap.lt_size e
theorem Paired.mapP {α β : Type} {F G : α -> β -> Prop} : ∀ {l₁ : List α} {l₂ : List β}, Paired F l₁ l₂ -> (∀ a b, F a b -> G a b) -> Paired G l₁ l₂
 | _, _, .nil, _ => .nil
 | _, _, .cons r t, f => .cons (f _ _ r) (Paired.mapP t f)
theorem ObjOk.stay (x : ObjOk P w H h a o) (k : ∀ b u, (b = a \/ H b = some (.own a)) -> h.get? b = some u -> h'.get? b = some u)
  (ho : ∀ b, H b = some (.own a) -> H' b = some (.own a)) (ht : ∀ b xs, H b = some (.tup xs) -> H' b = some (.tup xs)) : ObjOk P w H' h' a o := by
 induction o with
 | lst xs => obtain ⟨z, its, n, r, e⟩ := x; exact ⟨z, its, n, r, k _ _ (.inl rfl) e⟩
 | tup xs => obtain ⟨z, its, r, ob, e, c⟩ := x; exact ⟨z, its, r, ob, k _ _ (.inl rfl) e, c⟩
 | dK kvs => obtain ⟨z, y, vs, r, ob, es, ep, e, c⟩ := x; exact ⟨z, y, vs, r, ob, es, ep, k _ _ (.inl rfl) e, c⟩
 | dT kvs =>
  obtain ⟨z, y, xs, r, ob, es, ep, e, c⟩ := x
  exact ⟨z, y, xs, Paired.mapP r fun p q z => ⟨z.1, ht _ _ z.2.1, z.2.2⟩, ob, es, ep, k _ _ (.inl rfl) e, c⟩
 | set S n => obtain ⟨ob, es, ep, t, e, c⟩ := x; exact ⟨ob, es, ep, t, k _ _ (.inl rfl) e, c⟩
 | ins C dx fs =>
  obtain ⟨d, z, ne, e, mA, ⟨od, es, ep, e2, c⟩, r⟩ := x
  exact ⟨ho _ d, z, ne, k _ _ (.inl rfl) e, mA, ⟨od, es, ep, k _ _ (.inr d) e2, c⟩, r⟩
 | own y => obtain ⟨ob, e⟩ := x; exact ⟨ob, k _ _ (.inl rfl) e⟩
 | xd fs => obtain ⟨mA, ⟨od, es, ep, e, c⟩, r⟩ := x; exact ⟨mA, ⟨od, es, ep, k _ _ (.inl rfl) e, c⟩, r⟩
 | rng lo hi => obtain ⟨t, u, v, e⟩ := x; exact ⟨t, u, v, k _ _ (.inl rfl) e⟩
 | frz ob u ih => obtain ⟨e, q⟩ := x; exact ⟨k _ _ (.inl rfl) e, ih q⟩
 | tbl ps =>
  have e : h.get? a = some { cls := .none, data := .fields ps } := x
  show h'.get? a = some { cls := .none, data := .fields ps }
  exact k a _ (.inl rfl) e
 | met f y =>
  have e : h.get? a = some (PySem.W.methodObj (.ref f) (.ref y)) := x
  show h'.get? a = some (PySem.W.methodObj (.ref f) (.ref y))
  exact k a _ (.inl rfl) e
 | ext φ => obtain ⟨p, ⟨o, e⟩, st⟩ := x; exact ⟨st _ _ p fun o q => k _ _ (.inl rfl) q, ⟨o, k _ _ (.inl rfl) e⟩, st⟩
theorem HOk.lt (x : HOk P w H h) (e : H a = some o) : a < h.objs.size := (x a o e).lt
theorem HOk.fresh (x : HOk P w H h) (e : h.objs.size <= a) : H a = none := by
 cases q : H a with
 | none => rfl
 | some u => exact absurd (Nat.lt_of_lt_of_le (x.lt q) e) (Nat.lt_irrefl _)
theorem HOk.kept (x : HOk P w H h) (k : ∀ b u, h.get? b = some u -> h'.get? b = some u) : HOk P w H h' := fun a o e =>
 (x a o e).stay (fun b u _ q => k b u q) (fun _ q => q) fun _ _ q => q
theorem HOk.laid (x : HOk P w H h) (k : ∀ b u, h.get? b = some u -> h'.get? b = some u) (hp : h.objs.size <= a) (new : ObjOk P w (upd H a o) h' a o) : HOk P w (upd H a o) h' := fun b u e => by
 have hn := x.fresh hp
 by_cases hb : b = a
 ·subst hb; rw [uS] at e; cases e; exact new
 ·rw [uN hb] at e
  exact (x b u e).stay (fun c v _ q => k c v q) (fun c q => by rw [uN (nN q hn)]; exact q) fun c xs q => by rw [uN (nN q hn)]; exact q
end
def Rd (H : Hp) (a : Addr) (u : HO) : Prop := H a = some u \/ ∃ o, H a = some (.frz o u)
theorem Rd.ok {P : Program} {w : World} {H : Hp} {h : Heap} {a : Addr} {u : HO} (r : Rd H a u) (x : HOk P w H h) : ObjOk P w H h a u := by
 rcases r with r | ⟨o, r⟩
 ·exact x a u r
 ·obtain ⟨_, q⟩ := x a _ r
  exact q
def Mut : Option HO -> Prop
 | some (.lst _) => True
 | some (.dK _) => True
 | some (.dT _) => True
 | some (.set _ _) => True
 | some (.ins _ _ _) => True
 | some (.ext _) => True
 | _ => False
section
variable {P : Program} {w : World} {H : Hp} {h h' : Heap} {x e : Addr} {o' : HO}
theorem HOk.write (ok : HOk P w H h) (mu : Mut (H x)) (he : e = x \/ H e = some (.own x)) (k : ∀ b u, b ≠ e -> h.get? b = some u -> h'.get? b = some u) (heo : ∃ u, h'.get? e = some u)
  (new : ObjOk P w (upd H x o') h' x o') : HOk P w (upd H x o') h' := fun b u q => by
 have nown : ∀ c y, H c = some (.own y) -> c ≠ x := fun c y r z => by subst z; rw [r] at mu; exact mu
 have ntup : ∀ c xs, H c = some (.tup xs) -> c ≠ x := fun c xs r z => by subst z; rw [r] at mu; exact mu
 by_cases hb : b = x
 ·subst hb; rw [uS] at q; cases q; exact new
 ·rw [uN hb] at q
  by_cases hbe : b = e
  ·have q' : H b = some (.own x) := by
    rcases he with z | z
    ·exact absurd (hbe.trans z) hb
    ·rw [hbe]; exact z
   rw [q] at q'; cases q'
   obtain ⟨v, hv⟩ := heo
   exact ⟨v, by rw [hbe]; exact hv⟩
  ·refine (ok b u q).stay (fun c v hc r => k c v ?_ r) (fun c r => by rw [uN (nown c b r)]; exact r) fun c xs r => by rw [uN (ntup c xs r)]; exact r
   rcases hc with rfl | hc
   ·exact hbe
   ·rintro rfl
    rcases he with z | z
    ·exact nown c b hc z
    ·rw [hc] at z; cases z; exact hb rfl
end
structure Un (fs ex : List Addr) (H H' : Hp) (h h' : Heap) : Prop where
 keep : ∀ b o, h.get? b = some o -> H b = none -> b ∉ fs -> b ∉ ex -> h'.get? b = some o
 slot : ∀ b o, h.get? b = some o -> H b = none -> b ∈ fs -> b ∉ ex -> ∃ sl, h'.get? b = some { o with slots := sl }
 free : ∀ b o, h.get? b = some o -> H b = none -> b ∉ ex -> H' b = none
 there : ∀ b o, h.get? b = some o -> b ∉ ex -> ∃ o', h'.get? b = some o'
 tups : ∀ b xs, H b = some (.tup xs) -> H' b = some (.tup xs)
 frzs : ∀ b o u, H b = some (.frz o u) -> H' b = some (.frz o u)
 tbls : ∀ b ps, H b = some (.tbl ps) -> ∃ more, H' b = some (.tbl (ps ++ more))
section
variable {fs fs' ex ex' : List Addr} {H H1 H2 : Hp} {h h1 h2 h' : Heap} {a x e : Addr} {o : HO}
theorem Un.any (u : Un fs ex H H1 h h1) {b : Addr} {ob : Obj} (q : h.get? b = some ob) (n : H b = none) (hx : b ∉ ex) : ∃ sl, h1.get? b = some { ob with slots := sl } := by
 by_cases hb : b ∈ fs
 ·exact u.slot b ob q n hb hx
 ·exact ⟨ob.slots, u.keep b ob q n hb hx⟩
theorem Un.kept (k : ∀ b u, h.get? b = some u -> h'.get? b = some u) : Un fs ex H H h h' :=
 ⟨fun b ob q _ _ _ => k b ob q, fun b ob q _ _ _ => ⟨ob.slots, k b ob q⟩, fun _ _ _ n _ => n, fun b ob q _ => ⟨ob, k b ob q⟩, fun _ _ q => q, fun _ _ _ q => q, fun _ ps q => ⟨#[], by rw [q]; simp⟩⟩
theorem Un.refl : Un fs ex H H h h := Un.kept fun _ _ q => q
theorem Un.laid (k : ∀ b u, h.get? b = some u -> h'.get? b = some u) (hp : h.objs.size <= a) (hn : H a = none) : Un fs ex H (upd H a o) h h' where
 keep := fun b u q _ _ _ => k b u q
 slot := fun b u q _ _ _ => ⟨u.slots, k b u q⟩
 free := fun b u q n _ => by rw [uN (Nat.ne_of_lt (Nat.lt_of_lt_of_le (Heap.lt_size q) hp))]; exact n
 there := fun b u q _ => ⟨u, k b u q⟩
 tups := fun b xs q => by rw [uN (nN q hn)]; exact q
 frzs := fun b u xs q => by rw [uN (nN q hn)]; exact q
 tbls := fun b ps q => ⟨#[], by rw [uN (nN q hn), q]; simp⟩
theorem Un.write (mu : Mut (H x)) (he : e = x \/ H e = some (.own x)) (k : ∀ b u, b ≠ e -> h.get? b = some u -> h'.get? b = some u) (heo : ∃ u, h'.get? e = some u) : Un fs ex H (upd H x o) h h' := by
 have hx : ∀ b, H b = none -> b ≠ x := fun b n z => by subst z; rw [n] at mu; exact mu
 have hb : ∀ b, H b = none -> b ≠ e := fun b n z => by
  subst z
  rcases he with r | r
  ·exact hx b n r
  ·rw [n] at r; cases r
 have hm : ∀ b u, H b = some u -> ¬ Mut (some u) -> b ≠ x := fun b u q nm z => by subst z; rw [q] at mu; exact nm mu
 refine ⟨fun b u q n _ _ => k b u (hb b n) q, fun b u q n _ _ => ⟨u.slots, k b u (hb b n) q⟩, fun b u q n _ => by rw [uN (hx b n)]; exact n, fun b u q _ => ?_,
  fun b xs q => by rw [uN (hm b _ q fun z => z)]; exact q, fun b u xs q => by rw [uN (hm b _ q fun z => z)]; exact q, fun b ps q => ⟨#[], by rw [uN (hm b _ q fun z => z), q]; simp⟩⟩
 by_cases hbe : b = e
 ·subst hbe; exact heo
 ·exact ⟨u, k b u hbe q⟩
end
def trk (h : Heap) (H : Hp) : List Addr := (List.range h.objs.size).filter fun a => (H a).isSome
def hidT (h : Heap) (H : Hp) : Heap := PySem.W.hideAll h (trk h H)
theorem hidT_size (h : Heap) (H : Hp) : (hidT h H).objs.size = h.objs.size := PySem.W.hideAll_size _ _
theorem hidT_get {h : Heap} {H : Hp} {b : Addr} {o : Obj} (e : h.get? b = some o) (n : H b = none) : (hidT h H).get? b = some o :=
 PySem.W.hideAll_get _ e fun hm => by
  have q : (H b).isSome = true := (List.mem_filter.mp hm).2
  rw [n] at q; simp at q
theorem of_hidT {h : Heap} {H : Hp} {b : Addr} {o : Obj} (e : (hidT h H).get? b = some o) : h.get? b = some o /\ H b = none := by
 have e' : h.get? b = some o := PySem.W.of_hideAll (trk h H) e
 refine ⟨e', ?_⟩
 cases q : H b with
 | none => rfl
 | some x =>
  have hm : b ∈ trk h H := List.mem_filter.mpr ⟨List.mem_range.mpr (Heap.lt_size e'), by simp [q]⟩
  have z : (hidT h H).get? b = none := PySem.W.hideAll_none (trk h H) hm
  rw [z] at e; cases e
end L2
namespace L2
open PySem PySem.Spec PyProof.Rows
structure Mod (K : PySem.W.Frag) (mg : Str -> Option Value) (base : Heap) : Prop where
 kin : K.In base
 glob : base.Ns mainGlobals mg
 blt : ∃ mb, base.Ns builtinsNs mb /\ ∀ x : Str, x ≠ "__name__" -> mb x = bootBuiltins x
 nolimit : base.NoLimit
structure Cx where
 prog : Program
 w : World
 K : PySem.W.Frag
 mg : Str -> Option Value
 base : Heap
 A : Around
 N : List Str
 s_0 : Shared
 H_0 : Hp
 env : Env
 outer : List Env
 stack : List Env
 ex : List Addr
 fn : Str -> Bool
 calm : Bool
 pn : List (Addr × Obj)
 xe : Value -> Shared -> Prop
def frs (l : List Env) : List Addr := l.filterMap (·.frame)
abbrev Cx.fs (X : Cx) : List Addr := frs X.outer
def Vis (sc : Scope) (x : Str) : Prop := sc.names.lookup x = some .local \/ sc.names.lookup x = some .cell \/ sc.names.lookup x = some .free
def Loc (sc : Scope) (x : Str) : Prop := sc.names.lookup x = some .local \/ sc.names.lookup x = some .cell
def Look (env : Env) (h : Heap) (m : Str -> Option Value) (x : Str) (u : Value) : Prop :=
 (env.kindOf x = some .local /\ m x = some u) \/ ((env.kindOf x = some .cell \/ env.kindOf x = some .free) /\ ∃ c, env.cells.lookup x = some c /\ h.IsCell c (some u))
structure Cx.Ok (X : Cx) : Prop where
 mod : Mod X.K X.mg X.base
 kind : X.env.scope.kind = .function
 glob : X.env.globals = mainGlobals
 blt : X.env.builtins = builtinsNs
 above : X.s_0.heap.objs.size <= X.env.locals
 inj : ∀ x y c, X.env.cells.lookup x = some c -> X.env.cells.lookup y = some c -> x = y
 has : ∀ x, (X.env.kindOf x = some .cell \/ X.env.kindOf x = some .free) -> ∃ c, X.env.cells.lookup x = some c
 cab : ∀ x c, X.fn x = true -> X.env.cells.lookup x = some c -> X.s_0.heap.objs.size <= c
 hd : X.calm = true -> X.A.handled = none
 frames : X.A.frames = some X.stack
 stk : X.stack = X.outer \/ (X.stack = X.env :: X.outer /\ X.env.frame = some X.env.locals)
 exf : ∀ b ∈ X.ex, b ≠ X.env.locals /\ ∀ x c, X.env.cells.lookup x = some c -> c ≠ b
 bs : ∀ b o, X.base.get? b = some o -> X.s_0.heap.get? b = some o /\ X.H_0 b = none
 bsz : X.base.objs.size <= X.s_0.heap.objs.size
 noex : ∀ b o, X.base.get? b = some o -> b ∉ X.ex
 exfs : ∀ b ∈ X.ex, b ∉ X.fs
 funs : X.s_0.heap.FunFrames X.base X.outer
 frf : ∀ b ∈ X.fs, X.H_0 b = none
structure Inv (X : Cx) (pins : List (Addr × Obj)) (σ : List (Option V)) (H : Hp) (s : Shared) : Prop where
 ok : X.Ok
 os : s.os = X.s_0.os
 bare : AllBare s.gens
 base : Un X.fs X.ex X.H_0 H X.s_0.heap s.heap
 loc : ∃ m, s.heap.Ns X.env.locals m /\ ∀ (i : Nat) (x : Str) (v : V), X.N[i]? = some x -> σ[i]? = some (some v) -> Vis X.env.scope x -> ∃ u, RelV v u /\ Look X.env s.heap m x u
 cell : ∀ x c, X.env.cells.lookup x = some c -> ∃ v, s.heap.IsCell c v
 free : H X.env.locals = none
 freeC : ∀ x c, X.env.cells.lookup x = some c -> H c = none
 pin : ∀ p ∈ X.pn ++ pins, s.heap.get? p.1 = some p.2 /\ H p.1 = none /\ p.1 ≠ X.env.locals /\ p.1 ∉ X.fs /\ ∀ v, p.2.data ≠ .cell v
 hok : HOk X.prog X.w H s.heap
 len : σ.length = X.N.length
section
variable {X : Cx} {pins : List (Addr × Obj)} {σ : List (Option V)} {H H' : Hp} {s : Shared} {h' : Heap}
theorem Cx.Ok.nofr (ok : X.Ok) {b : Addr} {o : Obj} (e : X.base.get? b = some o) : b ∉ X.fs := fun hb => by
 have := (ok.funs.mem hb).1
 rw [e] at this; cases this
theorem Inv.bs (I : Inv X pins σ H s) : ∀ b o, X.base.get? b = some o -> s.heap.get? b = some o /\ H b = none := fun b o e =>
 ⟨I.base.keep b o (I.ok.bs b o e).1 (I.ok.bs b o e).2 (I.ok.nofr e) (I.ok.noex b o e), I.base.free b o (I.ok.bs b o e).1 (I.ok.bs b o e).2 (I.ok.noex b o e)⟩
theorem Inv.bk (I : Inv X pins σ H s) : ∀ b o, X.base.get? b = some o -> s.heap.get? b = some o := fun b o e => (I.bs b o e).1
theorem Inv.mod (I : Inv X pins σ H s) : Mod X.K X.mg X.base := I.ok.mod
theorem Inv.kIn (I : Inv X pins σ H s) : X.K.In s.heap := I.ok.mod.kin.keeps I.bk
theorem Inv.lt (I : Inv X pins σ H s) : X.env.locals < s.heap.objs.size := let ⟨_, hn, _⟩ := I.loc; hn.lt
theorem Inv.sz (I : Inv X pins σ H s) : X.s_0.heap.objs.size <= s.heap.objs.size := Nat.le_trans I.ok.above (Nat.le_of_lt I.lt)
theorem Inv.nofs (I : Inv X pins σ H s) {a : Addr} (h : s.heap.objs.size <= a) : a ∉ X.fs := fun hb => by
 obtain ⟨_, o, ho, _⟩ := I.ok.funs.mem hb
 exact absurd (Nat.lt_of_lt_of_le (Heap.lt_size ho) (Nat.le_trans I.sz h)) (Nat.lt_irrefl _)
theorem Inv.cne (I : Inv X pins σ H s) : ∀ x c, X.env.cells.lookup x = some c -> c ≠ X.env.locals := fun x c e z => by
 obtain ⟨v, o, ho, hd⟩ := I.cell x c e
 obtain ⟨m, ⟨o', es, ep, ho', hd', _⟩, _⟩ := I.loc
 rw [z, ho'] at ho; cases ho; rw [hd'] at hd; cases hd
theorem Inv.funs (I : Inv X pins σ H s) : s.heap.FunFrames X.base X.outer := by
 have all : ∀ (l : List Env), (∀ b ∈ frs l, b ∈ X.fs) -> X.s_0.heap.FunFrames X.base l -> s.heap.FunFrames X.base l := by
  intro l
  induction l with
  | nil => intro _ _; trivial
  | cons env r ih =>
   intro hs hl
   obtain ⟨hk, ⟨L, o, hf, hn, ho, hd⟩, hr⟩ := hl
   have hL : L ∈ X.fs := hs L (by unfold frs; rw [List.filterMap_cons, hf]; exact List.mem_cons_self)
   obtain ⟨sl, e⟩ := I.base.slot L o ho (I.ok.frf L hL) hL fun z => I.ok.exfs L z hL
   exact ⟨hk, ⟨L, _, hf, hn, e, hd⟩, ih (fun b hb => hs b (by unfold frs; rw [List.filterMap_cons, hf]; exact List.mem_cons_of_mem _ hb)) hr⟩
 exact all X.outer (fun _ hb => hb) I.ok.funs
theorem Inv.stack (I : Inv X pins σ H s) : s.heap.FunFrames X.base X.stack := by
 rcases I.ok.stk with e | ⟨e, hf⟩
 ·rw [e]; exact I.funs
 ·rw [e]
  obtain ⟨m, hn, _⟩ := I.loc
  refine .cons (by rw [I.ok.kind]; decide) hf hn ?_ I.funs
  exact Heap.get?_none_of_le (Nat.le_trans I.ok.bsz I.ok.above)
theorem Inv.stkSub (I : Inv X pins σ H s) : ∀ b ∈ frs X.stack, b ∈ X.env.locals :: X.fs := fun b hb => by
 rcases I.ok.stk with e | ⟨e, hf⟩
 ·rw [e] at hb; exact List.mem_cons_of_mem _ hb
 ·rw [e] at hb
  unfold frs at hb
  rw [List.filterMap_cons, hf] at hb
  exact hb
theorem Inv.stkFree (I : Inv X pins σ H s) : ∀ b ∈ frs X.stack, H b = none := fun b hb => by
 rcases List.mem_cons.mp (I.stkSub b hb) with e | hb
 ·rw [e]; exact I.free
 ·obtain ⟨_, o, ho, _⟩ := I.ok.funs.mem hb
  exact I.base.free b o ho (I.ok.frf b hb) fun z => I.ok.exfs b z hb
theorem Inv.step {g' : Array GenState} {t' : Nat} {d' : Drawn} {ch : List Addr} (I : Inv X pins σ H s)
  (hch : ∀ b ∈ ch, (b ∈ X.ex \/ X.s_0.heap.objs.size <= b) /\ b ≠ X.env.locals /\ (∀ x c, X.env.cells.lookup x = some c -> c ≠ b) /\ ∀ p ∈ X.pn ++ pins, p.1 ≠ b)
  (keep : ∀ b o, b ≠ X.env.locals -> b ∉ X.fs -> b ∉ ch -> s.heap.get? b = some o -> H b = none -> h'.get? b = some o)
  (slot : ∀ b o, b ≠ X.env.locals -> b ∈ X.fs -> b ∉ ch -> s.heap.get? b = some o -> H b = none -> ∃ sl, h'.get? b = some { o with slots := sl }) (free : ∀ b o, b ∉ ch -> s.heap.get? b = some o -> H b = none -> H' b = none)
  (there : ∀ b o, b ∉ ch -> s.heap.get? b = some o -> ∃ o', h'.get? b = some o')
  (tups : ∀ b xs, H b = some (.tup xs) -> H' b = some (.tup xs)) (frzs : ∀ b o u, H b = some (.frz o u) -> H' b = some (.frz o u)) (tbls : ∀ b ps, H b = some (.tbl ps) -> ∃ more, H' b = some (.tbl (ps ++ more)))
  (ns : ∀ m, s.heap.Ns X.env.locals m -> h'.Ns X.env.locals m) (hok : HOk X.prog X.w H' h') (hg : AllBare g') :
  Inv X pins σ H' { s with heap := h', gens := g', drawn := d', toks := t' } := by
 have neL : ∀ b o, X.s_0.heap.get? b = some o -> b ≠ X.env.locals := fun b o e => Nat.ne_of_lt (Nat.lt_of_lt_of_le (Heap.lt_size e) I.ok.above)
 have neC : ∀ b o, X.s_0.heap.get? b = some o -> b ∉ X.ex -> b ∉ ch := fun b o e hx hb => by
  rcases (hch b hb).1 with z | z
  ·exact hx z
  ·exact absurd (Nat.lt_of_lt_of_le (Heap.lt_size e) z) (Nat.lt_irrefl _)
 have cellK : ∀ x c, X.env.cells.lookup x = some c -> ∀ v, s.heap.IsCell c v -> h'.IsCell c v := fun x c e v ⟨o, ho, hd⟩ => by
  have nch : c ∉ ch := fun z => (hch c z).2.2.1 x c e rfl
  by_cases hc : c ∈ X.fs
  ·obtain ⟨sl, q⟩ := slot c o (I.cne x c e) hc nch ho (I.freeC x c e)
   exact ⟨_, q, hd⟩
  ·exact ⟨o, keep c o (I.cne x c e) hc nch ho (I.freeC x c e), hd⟩
 refine ⟨I.ok, I.os, hg, ⟨fun b o e n hb hx => ?_, fun b o e n hb hx => ?_, fun b o e n hx => ?_, fun b o e hx => ?_, fun b xs e => tups b xs (I.base.tups b xs e), fun b o xs e => frzs b o xs (I.base.frzs b o xs e), fun b ps e => ?_⟩, ?_, fun x c e => ?_, ?_, fun x c e => ?_, fun p hp => ?_, hok, I.len⟩
 ·exact keep b o (neL b o e) hb (neC b o e hx) (I.base.keep b o e n hb hx) (I.base.free b o e n hx)
 ·obtain ⟨sl, e1⟩ := I.base.slot b o e n hb hx
  obtain ⟨sl', e2⟩ := slot b _ (neL b o e) hb (neC b o e hx) e1 (I.base.free b o e n hx)
  exact ⟨sl', e2⟩
 ·obtain ⟨o', e1⟩ := I.base.there b o e hx
  exact free b o' (neC b o e hx) e1 (I.base.free b o e n hx)
 ·obtain ⟨o', e1⟩ := I.base.there b o e hx
  exact there b o' (neC b o e hx) e1
 ·obtain ⟨m1, e1⟩ := I.base.tbls b ps e
  obtain ⟨m2, e2⟩ := tbls b _ e1
  exact ⟨m1 ++ m2, by rw [e2, Array.append_assoc]⟩
 ·obtain ⟨m, hn, hl⟩ := I.loc
  refine ⟨m, ns m hn, fun i x v e1 e2 e3 => ?_⟩
  obtain ⟨u, r, l⟩ := hl i x v e1 e2 e3
  refine ⟨u, r, ?_⟩
  rcases l with l | ⟨k, c, e, z⟩
  ·exact .inl l
  ·exact .inr ⟨k, c, e, cellK x c e _ z⟩
 ·obtain ⟨v, z⟩ := I.cell x c e
  exact ⟨v, cellK x c e v z⟩
 ·obtain ⟨m, ⟨o, _, _, ho, _⟩, _⟩ := I.loc
  exact free _ o (fun z => (hch _ z).2.1 rfl) ho I.free
 ·obtain ⟨v, o, ho, hd⟩ := I.cell x c e
  exact free c o (fun z => (hch c z).2.2.1 x c e rfl) ho (I.freeC x c e)
 ·obtain ⟨e, n, ne, nf, d⟩ := I.pin p hp
  have nch : p.1 ∉ ch := fun z => (hch p.1 z).2.2.2 p hp rfl
  exact ⟨keep p.1 p.2 ne nf nch e n, free p.1 p.2 nch e n, ne, nf, d⟩
theorem Inv.un {t' : Nat} (I : Inv X pins σ H s) (u : Un X.fs [] H H' s.heap h') (hok : HOk X.prog X.w H' h') : Inv X pins σ H' { s with heap := h', toks := t' } := by
 obtain ⟨m, ⟨o, es, ep, ho, r⟩, _⟩ := id I.loc
 obtain ⟨sl, hL⟩ := u.any ho I.free (by simp)
 exact I.step (g' := s.gens) (d' := s.drawn) (ch := []) (fun _ z => nomatch z) (fun b o _ hb _ e n => u.keep b o e n hb (by simp)) (fun b o _ hb _ e n => u.slot b o e n hb (by simp)) (fun b o _ e n => u.free b o e n (by simp)) (fun b o _ e => u.there b o e (by simp)) u.tups u.frzs u.tbls (fun m' hm => by
  obtain ⟨o', es', ep', ho', r'⟩ := hm
  rw [ho] at ho'; cases ho'
  exact ⟨_, es', ep', hL, r'⟩) hok I.bare
theorem Inv.call {g' : Array GenState} {t' : Nat} {d' : Drawn} {ch : List Addr} (I : Inv X pins σ H s) (u : Un (frs X.stack) ch H H' s.heap h') (hok : HOk X.prog X.w H' h') (hg : AllBare g')
  (hch : ∀ b ∈ ch, (b ∈ X.ex \/ X.s_0.heap.objs.size <= b) /\ b ≠ X.env.locals /\ (∀ x c, X.env.cells.lookup x = some c -> c ≠ b) /\ ∀ p ∈ X.pn ++ pins, p.1 ≠ b) :
  Inv X pins σ H' { s with heap := h', gens := g', drawn := d', toks := t' } := by
 obtain ⟨m, ⟨o, es, ep, ho, r⟩, _⟩ := id I.loc
 obtain ⟨sl, hL⟩ := u.any ho I.free fun z => (hch _ z).2.1 rfl
 exact I.step (ch := ch) hch (fun b o hL hb hc e n => u.keep b o e n (fun z => (List.mem_cons.mp (I.stkSub b z)).elim hL hb) hc) (fun b o _ _ hc e n => u.any e n hc) (fun b o hc e n => u.free b o e n hc) (fun b o hc e => u.there b o e hc) u.tups u.frzs u.tbls (fun m' hm => by
  obtain ⟨o', es', ep', ho', r'⟩ := hm
  rw [ho] at ho'; cases ho'
  exact ⟨_, es', ep', hL, r'⟩) hok hg
theorem Inv.turned {t' : Nat} {it : Addr} (I : Inv X pins σ H s) (k : ∀ b o, b ≠ it -> s.heap.get? b = some o -> h'.get? b = some o) (hn : H it = none) (hL : it ≠ X.env.locals)
  (h1 : it ∈ X.ex \/ X.s_0.heap.objs.size <= it) (h2 : ∀ x c, X.env.cells.lookup x = some c -> c ≠ it) (h3 : ∀ p ∈ X.pn ++ pins, p.1 ≠ it) : Inv X pins σ H { s with heap := h', toks := t' } := by
 have nit : ∀ b u, H b = some u -> b ≠ it := fun b u e z => by rw [z, hn] at e; cases e
 refine I.step (g' := s.gens) (d' := s.drawn) (ch := [it]) (fun b hb => ?_) (fun b o _ _ hc e _ => k b o (fun z => hc (by simp [z])) e) (fun b o _ _ hc e _ => ⟨o.slots, k b o (fun z => hc (by simp [z])) e⟩) (fun _ _ _ _ n => n)
  (fun b o hc e => ⟨o, k b o (fun z => hc (by simp [z])) e⟩) (fun _ _ e => e) (fun _ _ _ e => e) (fun b ps e => ⟨#[], by rw [e]; simp⟩) (fun m hm => ?_) (fun b u e => ?_) I.bare
 ·have e : b = it := by simpa using hb
  subst e
  exact ⟨h1, hL, h2, h3⟩
 ·obtain ⟨o, es, ep, ho, r⟩ := hm
  exact ⟨o, es, ep, k _ o (Ne.symm hL) ho, r⟩
 ·refine (I.hok b u e).stay (fun c v hc q => k c v ?_ q) (fun _ q => q) fun _ _ q => q
  rcases hc with z | z
  ·rw [z]; exact nit b u e
  ·exact nit c _ z
theorem Inv.tok (I : Inv X pins σ H s) (t : Nat) : Inv X pins σ H { s with toks := t } := I.un (h' := s.heap) (t' := t) Un.refl I.hok
theorem Inv.kept {t' : Nat} (I : Inv X pins σ H s) (k : ∀ b u, s.heap.get? b = some u -> h'.get? b = some u) : Inv X pins σ H { s with heap := h', toks := t' } := I.un (Un.kept k) (I.hok.kept k)
theorem Inv.laid {a : Addr} {o : HO} {t' : Nat} (I : Inv X pins σ H s) (k : ∀ b u, s.heap.get? b = some u -> h'.get? b = some u) (hp : s.heap.objs.size <= a) (new : ObjOk X.prog X.w (upd H a o) h' a o) :
  Inv X pins σ (upd H a o) { s with heap := h', toks := t' } := I.un (Un.laid k hp (I.hok.fresh hp)) (I.hok.laid k hp new)
theorem Inv.write {x e : Addr} {o : HO} {t' : Nat} (I : Inv X pins σ H s) (mu : Mut (H x)) (he : e = x \/ H e = some (.own x)) (k : ∀ b u, b ≠ e -> s.heap.get? b = some u -> h'.get? b = some u) (heo : ∃ u, h'.get? e = some u)
  (new : ObjOk X.prog X.w (upd H x o) h' x o) : Inv X pins σ (upd H x o) { s with heap := h', toks := t' } := I.un (Un.write mu he k heo) (I.hok.write mu he k heo new)
theorem Inv.weak {σ' : List (Option V)} (I : Inv X pins σ H s) (hl : σ'.length = σ.length) (w : ∀ (i : Nat) v, σ'[i]? = some (some v) -> σ[i]? = some (some v)) : Inv X pins σ' H s :=
 ⟨I.ok, I.os, I.bare, I.base, let ⟨m, hn, hl'⟩ := I.loc; ⟨m, hn, fun i x v e1 e2 e3 => hl' i x v e1 (w i v e2) e3⟩, I.cell, I.free, I.freeC, I.pin, I.hok, hl.trans I.len⟩
theorem Inv.pins_of {pins' : List (Addr × Obj)} (I : Inv X pins σ H s) (h : ∀ p ∈ pins', s.heap.get? p.1 = some p.2 /\ H p.1 = none /\ p.1 ≠ X.env.locals /\ p.1 ∉ X.fs /\ ∀ v, p.2.data ≠ .cell v) : Inv X pins' σ H s :=
 ⟨I.ok, I.os, I.bare, I.base, I.loc, I.cell, I.free, I.freeC, fun p hp => (List.mem_append.mp hp).elim (fun z => I.pin p (List.mem_append_left _ z)) (h p), I.hok, I.len⟩
theorem nodup_ix {N : List Str} (hN : N.Nodup) {i j : Nat} {x : Str} (a : N[i]? = some x) (b : N[j]? = some x) : i = j := by
 obtain ⟨h1, e1⟩ := List.getElem?_eq_some_iff.mp a
 obtain ⟨h2, e2⟩ := List.getElem?_eq_some_iff.mp b
 exact (List.getElem_inj hN).mp (e1.trans e2.symm)
theorem store_ok2 {M : Model} {A : Around} {E : Value -> Shared -> Prop} {i : Nat} {x : Str} {v : V} {u : Value} {Q : Unit -> Shared -> Prop} (I : Inv X pins σ H s) (hN : X.N.Nodup) (hi : X.N[i]? = some x) (hx : Loc X.env.scope x) (r : RelV v u)
  (h : ∀ s', Inv X pins (σ.set i (some v)) H s' -> (∃ a, Heap.SameBut a s.heap s'.heap /\ (a = X.env.locals \/ X.env.cells.lookup x = some a)) -> Q () s') (hf : X.fn x = true \/ X.env.scope.names.lookup x = some .local := by first | exact .inl rfl | exact .inr rfl | assumption) : wpAny M A (storeName X.env x u) Q E s := by
 obtain ⟨m, hn, hl⟩ := id I.loc
 have hcls : (X.env.scope.kind == .class || (X.env.scope.kind == .module && X.env.locals != X.env.globals)) = false := by rw [I.ok.kind]; rfl
 have hiσ : i < σ.length := by rw [I.len]; exact (List.getElem?_eq_some_iff.mp hi).1
 have cne := I.cne
 have tracked : ∀ {a : Addr} {h' : Heap}, (∃ o, s.heap.get? a = some o /\ H a = none) -> Heap.SameBut a s.heap h' -> HOk X.prog X.w H h' := fun {a h'} ha hs b ob e => by
  obtain ⟨_, _, hfree⟩ := ha
  refine (I.hok b ob e).stay (fun c w' hc q => (hs.2 c ?_).trans q) (fun _ q => q) fun _ _ q => q
  rintro rfl
  rcases hc with rfl | hc
  ·rw [hfree] at e; cases e
  ·rw [hfree] at hc; cases hc
 rcases hx with hk | hk
 ·refine wpAny_storeName_local hk hn (fun h' hn' hs => ?_) hcls
  obtain ⟨oL, _, _, hoL, _⟩ := id hn
  refine h _ ⟨I.ok, I.os, I.bare, ⟨fun b o e n hb hx => ?_, fun b o e n hb hx => ?_, I.base.free, fun b o e hx => ?_, I.base.tups, I.base.frzs, I.base.tbls⟩, ⟨_, hn', fun j y v' e1 e2 e3 => ?_⟩, fun y c e => ?_, I.free, I.freeC, fun p hp => ?_, tracked ⟨oL, hoL, I.free⟩ hs, by simpa using I.len⟩ ⟨_, hs, .inl rfl⟩
  ·exact (hs.2 b (Nat.ne_of_lt (Nat.lt_of_lt_of_le (Heap.lt_size e) I.ok.above))).trans (I.base.keep b o e n hb hx)
  ·obtain ⟨sl, e1⟩ := I.base.slot b o e n hb hx
   exact ⟨sl, (hs.2 b (Nat.ne_of_lt (Nat.lt_of_lt_of_le (Heap.lt_size e) I.ok.above))).trans e1⟩
  ·obtain ⟨o', e1⟩ := I.base.there b o e hx
   exact ⟨o', (hs.2 b (Nat.ne_of_lt (Nat.lt_of_lt_of_le (Heap.lt_size e) I.ok.above))).trans e1⟩
  ·by_cases hj : j = i
   ·subst hj
    rw [hi] at e1; cases e1
    rw [List.getElem?_set_self hiσ] at e2
    cases e2
    exact ⟨u, r, .inl ⟨hk, by simp⟩⟩
   ·rw [List.getElem?_set_ne (Ne.symm hj)] at e2
    obtain ⟨u', r', q⟩ := hl j y v' e1 e2 e3
    refine ⟨u', r', ?_⟩
    rcases q with ⟨k, e⟩ | ⟨k, c, e, z⟩
    ·refine .inl ⟨k, ?_⟩
     have : y ≠ x := fun e => hj (nodup_ix hN e1 (e ▸ hi))
     simp [this, e]
    ·exact .inr ⟨k, c, e, z.sameBut hs (cne y c e)⟩
  ·obtain ⟨w', z⟩ := I.cell y c e
   exact ⟨w', z.sameBut hs (cne y c e)⟩
  ·obtain ⟨e, n, ne, nf, d⟩ := I.pin p hp
   exact ⟨(hs.2 p.1 ne).trans e, n, ne, nf, d⟩
 ·have hfn : X.fn x = true := by
   rcases hf with z | z
   ·exact z
   ·rw [z] at hk; cases hk
  obtain ⟨c, hc⟩ := I.ok.has x (.inl hk)
  obtain ⟨w', z⟩ := I.cell x c hc
  refine wpAny_storeName_cell I.ok.kind hk hc z (fun h' hc' hs => ?_)
  obtain ⟨oc, hoc, hocd⟩ := id z
  refine h { s with heap := h' } ⟨I.ok, I.os, I.bare, ⟨fun b o e n hb hx => ?_, fun b o e n hb hx => ?_, I.base.free, fun b o e hx => ?_, I.base.tups, I.base.frzs, I.base.tbls⟩, ⟨m, hn.sameBut hs (Ne.symm (cne x c hc)), fun j y v' e1 e2 e3 => ?_⟩, fun y c' e => ?_, I.free, I.freeC, fun p hp => ?_, tracked ⟨oc, hoc, I.freeC x c hc⟩ hs, by simpa using I.len⟩ ⟨c, hs, .inr hc⟩
  ·exact (hs.2 b (Nat.ne_of_lt (Nat.lt_of_lt_of_le (Heap.lt_size e) (I.ok.cab x c hfn hc)))).trans (I.base.keep b o e n hb hx)
  ·obtain ⟨sl, e1⟩ := I.base.slot b o e n hb hx
   exact ⟨sl, (hs.2 b (Nat.ne_of_lt (Nat.lt_of_lt_of_le (Heap.lt_size e) (I.ok.cab x c hfn hc)))).trans e1⟩
  ·obtain ⟨o', e1⟩ := I.base.there b o e hx
   exact ⟨o', (hs.2 b (Nat.ne_of_lt (Nat.lt_of_lt_of_le (Heap.lt_size e) (I.ok.cab x c hfn hc)))).trans e1⟩
  ·by_cases hj : j = i
   ·subst hj
    rw [hi] at e1; cases e1
    rw [List.getElem?_set_self hiσ] at e2
    cases e2
    exact ⟨u, r, .inr ⟨.inl hk, c, hc, hc'⟩⟩
   ·rw [List.getElem?_set_ne (Ne.symm hj)] at e2
    obtain ⟨u', r', q⟩ := hl j y v' e1 e2 e3
    refine ⟨u', r', ?_⟩
    rcases q with q | ⟨k, c', e, z'⟩
    ·exact .inl q
    ·refine .inr ⟨k, c', e, z'.sameBut hs ?_⟩
     rintro rfl
     exact hj (nodup_ix hN e1 (I.ok.inj _ _ _ e hc ▸ hi))
  ·by_cases hcc : c' = c
   ·subst hcc; exact ⟨_, hc'⟩
   ·obtain ⟨w2, z2⟩ := I.cell y c' e
    exact ⟨w2, z2.sameBut hs hcc⟩
  ·obtain ⟨e, n, ne, nf, d⟩ := I.pin p hp
   refine ⟨(hs.2 p.1 ?_).trans e, n, ne, nf, d⟩
   intro q
   rw [q, hoc] at e
   have q' : oc = p.2 := Option.some.inj e
   exact d w' (by rw [<- q']; exact hocd)
theorem store_ok {M : Model} {A : Around} {E : Value -> Shared -> Prop} {i : Nat} {x : Str} {v : V} {u : Value} {Q : Unit -> Shared -> Prop} (I : Inv X pins σ H s) (hN : X.N.Nodup) (hi : X.N[i]? = some x) (hx : Loc X.env.scope x) (r : RelV v u)
  (h : ∀ s', Inv X pins (σ.set i (some v)) H s' -> Q () s') (hf : X.fn x = true \/ X.env.scope.names.lookup x = some .local := by first | exact .inl rfl | exact .inr rfl | assumption) : wpAny M A (storeName X.env x u) Q E s :=
 store_ok2 I hN hi hx r (fun s' I' _ => h s' I') hf
theorem Inv.call' {s' : Shared} {ch : List Addr} (I : Inv X pins σ H s) (ho : s'.os = s.os) (u : Un (frs X.stack) ch H H' s.heap s'.heap) (hok : HOk X.prog X.w H' s'.heap) (hg : AllBare s'.gens)
  (hch : ∀ b ∈ ch, (b ∈ X.ex \/ X.s_0.heap.objs.size <= b) /\ b ≠ X.env.locals /\ (∀ x c, X.env.cells.lookup x = some c -> c ≠ b) /\ ∀ p ∈ X.pn ++ pins, p.1 ≠ b) : Inv X pins σ H' s' := by
 obtain ⟨h', g', d', t', o'⟩ := s'
 have e : o' = s.os := ho
 subst e
 exact I.call (g' := g') (t' := t') (d' := d') u hok hg hch
end
abbrev XK := Value -> Option Addr -> Hp -> Prop
abbrev St := List (Option V)
abbrev VK := V -> Hp -> Prop
abbrev TE := St -> Hp -> VK -> Prop
abbrev TT := St -> Hp -> (Bool -> Hp -> Prop) -> Prop
abbrev TA := St -> Hp -> (List V -> Hp -> Prop) -> Prop
structure Ends where
 nx : St -> Hp -> Prop
 rt : VK
 bk : St -> Hp -> Prop := fun _ _ => False
 ct : St -> Hp -> Prop := fun _ _ => False
abbrev TS := Ends -> St -> Hp -> Prop
def EP (X : Cx) (pins : List (Addr × Obj)) (σ : St) (Q : VK) (u : Value) (s' : Shared) : Prop := ∃ v H', Inv X pins σ H' s' /\ RelV v u /\ Q v H'
def TP (X : Cx) (pins : List (Addr × Obj)) (σ : St) (Q : Bool -> Hp -> Prop) (b : Bool) (s' : Shared) : Prop := ∃ H', Inv X pins σ H' s' /\ Q b H'
def AP (X : Cx) (pins : List (Addr × Obj)) (σ : St) (Q : List V -> Hp -> Prop) (us : List Value) (s' : Shared) : Prop := ∃ vs H', Inv X pins σ H' s' /\ Vals vs us /\ Q vs H'
def SP (X : Cx) (pins : List (Addr × Obj)) (D : Ends) (f : Flow) (s' : Shared) : Prop :=
 match f with
 | .next => ∃ σ' H', Inv X pins σ' H' s' /\ D.nx σ' H'
 | .brk => ∃ σ' H', Inv X pins σ' H' s' /\ D.bk σ' H'
 | .cont => ∃ σ' H', Inv X pins σ' H' s' /\ D.ct σ' H'
 | .ret u => ∃ v σ' H', Inv X pins σ' H' s' /\ RelV v u /\ D.rt v H'
def PE (X : Cx) (e : Expr) (t : TE) : Prop :=
 ∀ (pins : List (Addr × Obj)) (s : Shared) (σ : St) (H : Hp) (Q : VK), Inv X pins σ H s -> t σ H Q -> wpAny (model X.prog X.w) X.A (eval e X.env) (EP X pins σ Q) X.xe s
def PT (X : Cx) (e : Expr) (t : TT) : Prop :=
 ∀ (pins : List (Addr × Obj)) (s : Shared) (σ : St) (H : Hp) (Q : Bool -> Hp -> Prop), Inv X pins σ H s -> t σ H Q -> wpAny (model X.prog X.w) X.A (isTrue e X.env (eval e X.env)) (TP X pins σ Q) X.xe s
def PW (X : Cx) (e : Expr) (t : TT) : Prop :=
 ∀ (whole : Sem Value) (pins : List (Addr × Obj)) (s : Shared) (σ : St) (H : Hp) (Q : Bool -> Hp -> Prop), Inv X pins σ H s -> t σ H Q -> wpAny (model X.prog X.w) X.A (isTrue e X.env whole) (TP X pins σ Q) X.xe s
theorem PW.pt {X : Cx} {e : Expr} {t : TT} (h : PW X e t) : PT X e t := h _
def PA (X : Cx) (es : List Expr) (t : TA) : Prop :=
 ∀ (pos : Pos) (pins : List (Addr × Obj)) (s : Shared) (σ : St) (H : Hp) (Q : List V -> Hp -> Prop), Inv X pins σ H s -> t σ H Q -> wpAny (model X.prog X.w) X.A (spliced (backTo pos (starEach es X.env))) (AP X pins σ Q) X.xe s
def PS (X : Cx) (st : Stmt) (t : TS) : Prop :=
 ∀ (pins : List (Addr × Obj)) (s : Shared) (σ : St) (H : Hp) (D : Ends), Inv X pins σ H s -> t D σ H -> wpAny (model X.prog X.w) X.A (exec st X.env) (SP X pins D) X.xe s
def PSs (X : Cx) (st : List Stmt) (t : TS) : Prop :=
 ∀ (pins : List (Addr × Obj)) (s : Shared) (σ : St) (H : Hp) (D : Ends), Inv X pins σ H s -> t D σ H -> wpAny (model X.prog X.w) X.A (execs st X.env) (SP X pins D) X.xe s
theorem thn {α : Type} {t : Sem α} {Q Q' : α -> Shared -> Prop} {M : Model} {A : Around} {E : Value -> Shared -> Prop} {s : Shared} (h : wpAny M A t Q E s) (hQ : ∀ a s, Q a s -> Q' a s) : wpAny M A t Q' E s := wpAny_mono h hQ fun _ _ x => x
end L2
namespace L2
open PySem PySem.Spec PyProof.Rows
section
variable {X : Cx}
def tVar (i : Nat) : TE := fun σ H Q => ∃ v, σ[i]? = some (some v) /\ Q v H
def tC (v : V) : TE := fun _ H Q => Q v H
theorem pe_var {i : Nat} {x : Str} {pos : Pos} (hN : X.N[i]? = some x) (hv : Vis X.env.scope x) (hd : (x == ("__debug__" : Str)) = false := by decide) (hcd : (x == ("__classdict__" : Str)) = false := by decide) : PE X (.Name x pos) (tVar i) := by
 intro pins s σ H Q I h
 obtain ⟨v, e, h⟩ := h
 obtain ⟨m, hn, hl⟩ := I.loc
 obtain ⟨u, r, l⟩ := hl i x v hN e hv
 have fin : EP X pins σ Q u s := ⟨v, H, I, r, h⟩
 rcases l with ⟨hk, hm⟩ | ⟨hk, c, hc, hcell⟩
 ·exact wpAny_Name (wpAny_loadName_local I.ok.kind hk hn hm fin) hd
 ·rcases hk with hk | hk
  ·exact wpAny_Name (wpAny_loadName_cell I.ok.kind hk hc hcell fin) hd
  ·exact wpAny_Name (wpAny_loadName_free I.ok.kind hk hc hcell fin hcd) hd
theorem pe_int {i j pos} : PE X (.Constant (.int i) j pos) (tC (.int i)) := fun _ _ _ H _ I h => wpAny_Constant_int ⟨.int i, H, I.tok _, ⟨_, rfl⟩, h⟩
theorem pe_bl {b j pos} : PE X (.Constant (.bool b) j pos) (tC (.bl b)) := fun _ _ _ H _ I h => Constant_bool ⟨.bl b, H, I, rfl, h⟩
theorem pe_non {j pos} : PE X (.Constant .none j pos) (tC .non) := fun _ _ _ H _ I h => Constant_none ⟨.non, H, I, rfl, h⟩
def Gl (X : Cx) (x : Str) : Prop := X.env.kindOf x = some .globalImplicit
theorem ld_glob {E : Value -> Shared -> Prop} {pins : List (Addr × Obj)} {s : Shared} {σ : St} {H : Hp} {x : Str} {u : Value} {pos : Pos} {Q : Value -> Shared -> Prop} (I : Inv X pins σ H s) (hg : Gl X x) (hm : X.mg x = some u) (h : Q u s)
  (hd : (x == ("__debug__" : Str)) = false := by decide) : wpAny (model X.prog X.w) X.A (eval (.Name x pos) X.env) Q E s :=
 Calls.Name_function_global I.ok.kind hg (Calls.loadGlobal_global (by rw [I.ok.glob]; exact I.mod.glob.keeps I.bk) hm h) hd
theorem ld_blt {E : Value -> Shared -> Prop} {pins : List (Addr × Obj)} {s : Shared} {σ : St} {H : Hp} {x : Str} {u : Value} {pos : Pos} {Q : Value -> Shared -> Prop} (I : Inv X pins σ H s) (hg : Gl X x) (hm : X.mg x = none) (hv : bootBuiltins x = some u) (h : Q u s)
  (hn : x ≠ "__name__" := by decide) (hd : (x == ("__debug__" : Str)) = false := by decide) : wpAny (model X.prog X.w) X.A (eval (.Name x pos) X.env) Q E s := by
 obtain ⟨mb, h1, h2⟩ := I.mod.blt
 exact Calls.Name_function_global I.ok.kind hg (Calls.loadGlobal_builtin (by rw [I.ok.glob]; exact I.mod.glob.keeps I.bk) hm (by rw [I.ok.blt]; exact h1.keeps I.bk) ((h2 x hn).trans hv) h) hd
theorem pe_glob {x : Str} {v : V} {u : Value} {pos : Pos} (hg : Gl X x) (hm : X.mg x = some u) (r : RelV v u) (hd : (x == ("__debug__" : Str)) = false := by decide) : PE X (.Name x pos) (tC v) :=
 fun _ _ _ H _ I h => ld_glob I hg hm ⟨v, H, I, r, h⟩ hd
variable {a b : Expr} {ta tb : TE} {pos : Pos}
def PC (X : Cx) (op : CmpOp) (a b : Expr) (t : TE) : Prop :=
 ∀ (pins : List (Addr × Obj)) (s : Shared) (σ : St) (H : Hp) (Q : VK), Inv X pins σ H s -> t σ H Q ->
  wpAny (model X.prog X.w) X.A (eval a X.env) (fun v s₁ => wpAny (model X.prog X.w) X.A (eval b X.env) (fun u s₂ => wpAny (model X.prog X.w) X.A (compareOp op v u) (EP X pins σ Q) X.xe s₂) X.xe s₁) X.xe s
theorem nobehind (b : Expr) {op : CmpOp} (h : op ≠ .In) (h2 : op ≠ .NotIn) : behindInMarks op b = false := by
 have e1 : (op == CmpOp.In) = false := by cases op <;> first | rfl | exact absurd rfl h
 have e2 : (op == CmpOp.NotIn) = false := by cases op <;> first | rfl | exact absurd rfl h2
 cases b <;> simp [behindInMarks, e1, e2]
def tIsN (ta : TE) : TE := fun σ H Q => ta σ H fun x H1 => Q (.bl (decide (x = .non))) H1
def tNotN (ta : TE) : TE := fun σ H Q => ta σ H fun x H1 => Q (.bl (!decide (x = .non))) H1
theorem RelV.none_iff {x : V} {v : Value} (r : RelV x v) : (v == Value.none) = decide (x = .non) := by
 cases x with
 | non => cases r; rfl
 | bl _ => cases r; rfl
 | int _ => obtain ⟨t, rfl⟩ := r; rfl
 | str _ => obtain ⟨t, rfl⟩ := r; rfl
 | byt _ => obtain ⟨t, rfl⟩ := r; rfl
 | flt _ => obtain ⟨t, rfl⟩ := r; rfl
 | ref _ => cases r; rfl
 | ty _ => cases r; rfl
theorem pc_isN {j pos'} (ha : PE X a ta) : PC X .Is a (.Constant .none j pos') (tIsN ta) := by
 intro pins s σ H Q I h
 refine thn (ha pins s σ H _ I h) fun v s1 ⟨x, H1, I1, r1, q1⟩ => ?_
 exact Constant_none (is_none_gen ⟨.bl _, H1, I1, by rw [r1.none_iff]; rfl, q1⟩)
theorem pc_notN {j pos'} (ha : PE X a ta) : PC X .IsNot a (.Constant .none j pos') (tNotN ta) := by
 intro pins s σ H Q I h
 refine thn (ha pins s σ H _ I h) fun v s1 ⟨x, H1, I1, r1, q1⟩ => ?_
 exact Constant_none (isnot_none_gen ⟨.bl _, H1, I1, by rw [r1.none_iff]; rfl, q1⟩)
def tB (t : TE) : TT := fun σ H Q => t σ H fun x H1 => ∃ c, x = .bl c /\ Q c H1
theorem pe_cmp {op : CmpOp} {t : TE} (h : PC X op a b t) (h1 : behindInMarks op b = false := by first | exact nobehind _ (by decide) (by decide) | rfl) : PE X (.Compare a [op] [b] pos) t := fun pins s σ H Q I hw => wpAny_Compare1 (h pins s σ H Q I hw) h1
theorem pt_cmp {op : CmpOp} {t : TE} (h : PC X op a b t) (h1 : behindInMarks op b = false := by first | exact nobehind _ (by decide) (by decide) | rfl) : PT X (.Compare a [op] [b] pos) (tB t) := by
 intro pins s σ H Q I hw
 refine wpAny_isTrue_Compare1 (thn (h pins s σ H _ I hw) fun v s1 h1 => thn h1 fun u s2 h2 => thn h2 fun c s3 ⟨x, H1, I1, r1, q1⟩ => ?_) h1
 obtain ⟨d, rfl, q⟩ := q1
 cases r1
 exact wpAny_truthy_bool ⟨H1, I1, q⟩
theorem pt_val {e : Expr} {t : TE} (h : PE X e t) (he : ∀ whole, isTrue e X.env whole = (do let v <- whole; standAt e.pos; holding [v] (truthy v)) := by intro _; rfl) : PT X e (tB t) := by
 intro pins s σ H Q I hw
 refine isTrue_plain (thn (h pins s σ H _ I hw) fun v s1 ⟨x, H1, I1, r1, q1⟩ => ?_) (he _)
 obtain ⟨d, rfl, q⟩ := q1
 cases r1
 exact wpAny_truthy_bool ⟨H1, I1, q⟩
variable {tA tB' : TT} {rest : List Expr}
def tAnd (t u : TT) : TT := fun σ H Q => t σ H fun c H1 => if c = true then u σ H1 Q else Q false H1
def tOr (t u : TT) : TT := fun σ H Q => t σ H fun c H1 => if c = true then Q true H1 else u σ H1 Q
def tNot (t : TT) : TT := fun σ H Q => t σ H fun c H1 => Q (!c) H1
theorem pw_and1 (ha : PT X a tA) : PW X (.BoolOp .And [a] pos) tA := by
 intro wh pins s σ H Q I h
 refine isTrue_and (thn (ha pins s σ H Q I h) fun c s1 e => ?_)
 cases c with
 | true => exact isTrue_and_nil e
 | false => exact e
theorem pw_or1 (ha : PT X a tA) : PW X (.BoolOp .Or [a] pos) tA := by
 intro wh pins s σ H Q I h
 refine isTrue_or (thn (ha pins s σ H Q I h) fun c s1 e => ?_)
 cases c with
 | false => exact isTrue_or_nil e
 | true => exact e
theorem pw_and (ha : PT X a tA) (hb : PW X (.BoolOp .And (b :: rest) pos) tB') : PW X (.BoolOp .And (a :: b :: rest) pos) (tAnd tA tB') := by
 intro wh pins s σ H Q I h
 refine isTrue_and (thn (ha pins s σ H _ I h) fun c s1 ⟨H1, I1, q1⟩ => ?_)
 cases c with
 | true => exact hb wh pins s1 σ H1 Q I1 q1
 | false => exact ⟨H1, I1, q1⟩
theorem pw_or (ha : PT X a tA) (hb : PW X (.BoolOp .Or (b :: rest) pos) tB') : PW X (.BoolOp .Or (a :: b :: rest) pos) (tOr tA tB') := by
 intro wh pins s σ H Q I h
 refine isTrue_or (thn (ha pins s σ H _ I h) fun c s1 ⟨H1, I1, q1⟩ => ?_)
 cases c with
 | true => exact ⟨H1, I1, q1⟩
 | false => exact hb wh pins s1 σ H1 Q I1 q1
theorem pt_not (ha : PT X a tA) : PT X (.UnaryOp .Not a pos) (tNot tA) := by
 intro pins s σ H Q I h
 exact isTrue_not (ha pins s σ H (fun c H1 => Q (!c) H1) I h)
def tAndV (ta tb : TE) : TE := fun σ H Q => ta σ H fun x H1 => ∃ c, x = .bl c /\ if c = true then tb σ H1 Q else Q (.bl false) H1
def tOrV (ta tb : TE) : TE := fun σ H Q => ta σ H fun x H1 => ∃ c, x = .bl c /\ if c = true then Q (.bl true) H1 else tb σ H1 Q
theorem pe_one {op} {t : TE} (h : PE X a t) : PE X (.BoolOp op [a] pos) t := fun pins s σ H Q I hw => BoolOp_one (h pins s σ H Q I hw)
theorem pe_and (ha : PE X a ta) (hb : PE X (.BoolOp .And (b :: rest) pos) tb) : PE X (.BoolOp .And (a :: b :: rest) pos) (tAndV ta tb) := by
 intro pins s σ H Q I h
 refine BoolOp_and (thn (ha pins s σ H _ I h) fun v s1 ⟨x, H1, I1, r1, q1⟩ => ?_)
 obtain ⟨c, rfl, q1⟩ := q1
 cases r1
 refine wpAny_truthy_bool ?_
 cases c with
 | true => exact hb pins s1 σ H1 Q I1 q1
 | false => exact ⟨.bl false, H1, I1, rfl, q1⟩
theorem pe_or (ha : PE X a ta) (hb : PE X (.BoolOp .Or (b :: rest) pos) tb) : PE X (.BoolOp .Or (a :: b :: rest) pos) (tOrV ta tb) := by
 intro pins s σ H Q I h
 refine BoolOp_or (thn (ha pins s σ H _ I h) fun v s1 ⟨x, H1, I1, r1, q1⟩ => ?_)
 obtain ⟨c, rfl, q1⟩ := q1
 cases r1
 refine wpAny_truthy_bool ?_
 cases c with
 | false => exact hb pins s1 σ H1 Q I1 q1
 | true => exact ⟨.bl true, H1, I1, rfl, q1⟩
def tIf (t : TT) (ta tb : TE) : TE := fun σ H Q => t σ H fun c H1 => if c = true then ta σ H1 Q else tb σ H1 Q
theorem pe_ifExp {c : Expr} (hc : PT X c tA) (ha : PE X a ta) (hb : PE X b tb) : PE X (.IfExp c a b pos) (tIf tA ta tb) := by
 intro pins s σ H Q I h
 refine wpAny_IfExp (thn (hc pins s σ H _ I h) fun d s1 ⟨H1, I1, q1⟩ => ?_)
 cases d with
 | true => exact ha pins s1 σ H1 Q I1 q1
 | false => exact hb pins s1 σ H1 Q I1 q1
end
end L2
namespace L2
open PySem PySem.Spec PyProof.Rows
def SqL (K : PySem.W.Frag) (H : Hp) (a : Addr) (xs : List V) : Prop :=
 Rd H a (.lst xs) \/
  ∃ (o : Obj) (its : Array Value) (n : Nat), K.lookup a = some o /\ o.cls = .type "list" /\ o.dict = none /\ o.data = .seq its n /\ its.size <= sizeLine /\ Vals xs its.toList
def SqT (K : PySem.W.Frag) (H : Hp) (a : Addr) (xs : List V) : Prop :=
 Rd H a (.tup xs) \/
  ∃ (o : Obj) (its : Array Value) (n : Nat), K.lookup a = some o /\ o.cls = .type "tuple" /\ o.data = .seq its n /\ its.size <= sizeLine /\ Vals xs its.toList
def absV : Value -> Option V
 | .none => some .non
 | .bool b => some (.bl b)
 | .int i _ => some (.int i)
 | .str x _ => some (.str x)
 | .bytes b _ => some (.byt b)
 | .float b _ => some (.flt b)
 | .ref a => some (.ref a)
 | .type n => some (.ty n)
 | _ => none
theorem RelV.abs {x : V} {u : Value} (r : RelV x u) : absV u = some x := by
 cases x with
 | non => cases r; rfl
 | bl _ => cases r; rfl
 | int _ => obtain ⟨t, rfl⟩ := r; rfl
 | str _ => obtain ⟨t, rfl⟩ := r; rfl
 | byt _ => obtain ⟨t, rfl⟩ := r; rfl
 | flt _ => obtain ⟨t, rfl⟩ := r; rfl
 | ref _ => cases r; rfl
 | ty _ => cases r; rfl
theorem RelV.inj {x y : V} {u : Value} (r : RelV x u) (q : RelV y u) : x = y := Option.some.inj (r.abs.symm.trans q.abs)
theorem Vals.inj : ∀ {xs ys : List V} {us : List Value}, Vals xs us -> Vals ys us -> xs = ys
 | _, _, _, .nil, .nil => rfl
 | _, _, _, .cons r t, .cons r' t' => by rw [r.inj r', Vals.inj t t']
section
variable {X : Cx} {pins : List (Addr × Obj)} {σ : St} {H : Hp} {s : Shared} {a : Addr} {xs ys : List V}
theorem SqL.of {K : PySem.W.Frag} (h : H a = some (.lst xs)) : SqL K H a xs := .inl (.inl h)
theorem SqT.of {K : PySem.W.Frag} (h : H a = some (.tup xs)) : SqT K H a xs := .inl (.inl h)
theorem Inv.list (I : Inv X pins σ H s) (h : SqL X.K H a xs) : ∃ its : List Value, Vals xs its /\ PlainL s.heap a its.toArray /\ xs.length <= sizeLine := by
 rcases h with h | ⟨o, its, n, hk, hc, hd, hs, hz, r⟩
 ·obtain ⟨z, its, n, r, e⟩ := h.ok I.hok
  exact ⟨its, r, ⟨_, n, e, rfl, rfl, rfl⟩, z⟩
 ·refine ⟨its.toList, r, ⟨o, n, I.kIn a o hk, hc, hd, by simpa using hs⟩, ?_⟩
  have e := r.length
  simp only [Array.length_toList] at e
  omega
theorem Inv.tuple (I : Inv X pins σ H s) (h : SqT X.K H a xs) : ∃ its : List Value, Vals xs its /\ IsTup s.heap a its.toArray /\ xs.length <= sizeLine := by
 rcases h with h | ⟨o, its, n, hk, hc, hs, hz, r⟩
 ·obtain ⟨z, its, r, p⟩ := h.ok I.hok
  exact ⟨its, r, p, z⟩
 ·refine ⟨its.toList, r, ⟨o, I.kIn a o hk, hc, n, by simpa using hs⟩, ?_⟩
  have e := r.length
  simp only [Array.length_toList] at e
  omega
theorem Inv.list_inj (I : Inv X pins σ H s) (h : SqL X.K H a xs) (h' : SqL X.K H a ys) : xs = ys := by
 obtain ⟨its, r, ⟨o, n, e, _, _, d⟩, _⟩ := I.list h
 obtain ⟨its', r', ⟨o', n', e', _, _, d'⟩, _⟩ := I.list h'
 rw [e] at e'; cases e'
 rw [d] at d'
 injection d' with d1 _
 have : its = its' := by simpa using congrArg Array.toList d1
 subst this
 exact r.inj r'
end
abbrev Cx.wish (X : Cx) (E : Value -> Shared -> Prop) : Cx := { X with xe := E }
abbrev Cx.nox (X : Cx) : Cx := X.wish fun _ _ => False
theorem Cx.Ok.wish {X : Cx} (ok : X.Ok) (E : Value -> Shared -> Prop) : (X.wish E).Ok :=
 ⟨ok.mod, ok.kind, ok.glob, ok.blt, ok.above, ok.inj, ok.has, ok.cab, ok.hd, ok.frames, ok.stk, ok.exf, ok.bs, ok.bsz, ok.noex, ok.exfs, ok.funs, ok.frf⟩
theorem Cx.Ok.unwish {X : Cx} {E : Value -> Shared -> Prop} (ok : (X.wish E).Ok) : X.Ok :=
 ⟨ok.mod, ok.kind, ok.glob, ok.blt, ok.above, ok.inj, ok.has, ok.cab, ok.hd, ok.frames, ok.stk, ok.exf, ok.bs, ok.bsz, ok.noex, ok.exfs, ok.funs, ok.frf⟩
section
variable {X : Cx} {pins : List (Addr × Obj)} {σ : St} {H : Hp} {s : Shared} {E : Value -> Shared -> Prop}
theorem Inv.wish (I : Inv X pins σ H s) (E : Value -> Shared -> Prop) : Inv (X.wish E) pins σ H s := ⟨I.ok.wish E, I.os, I.bare, I.base, I.loc, I.cell, I.free, I.freeC, I.pin, I.hok, I.len⟩
theorem Inv.unwish (I : Inv (X.wish E) pins σ H s) : Inv X pins σ H s := ⟨I.ok.unwish, I.os, I.bare, I.base, I.loc, I.cell, I.free, I.freeC, I.pin, I.hok, I.len⟩
theorem SP.unwish {D : Ends} {f : Flow} {s' : Shared} (h : SP (X.wish E) pins D f s') : SP X pins D f s' := by
 cases f with
 | next => obtain ⟨σ', H', I, q⟩ := h; exact ⟨σ', H', I.unwish, q⟩
 | brk => obtain ⟨σ', H', I, q⟩ := h; exact ⟨σ', H', I.unwish, q⟩
 | cont => obtain ⟨σ', H', I, q⟩ := h; exact ⟨σ', H', I.unwish, q⟩
 | ret u => obtain ⟨v, σ', H', I, r, q⟩ := h; exact ⟨v, σ', H', I.unwish, r, q⟩
theorem PSs.nox {st : List Stmt} {t : TS} (h : PSs X.nox st t) : PSs X st t := fun pins s σ H D I hw =>
 wpAny_mono (h pins s σ H D (I.wish _) hw) (fun _ _ q => q.unwish) fun _ _ z => False.elim z
end
section
variable {X : Cx} {st : Stmt} {rest : List Stmt} {t u : TS} {e : Expr} {te : TE} {pos : Pos}
def tNext : TS := fun D σ H => D.nx σ H
def tSeq (t u : TS) : TS := fun D σ H => t { D with nx := u D } σ H
theorem bN : PSs X [] tNext := fun _ _ σ H _ I h => wpAny_execs_nil ⟨σ, H, I, h⟩
theorem bC (h1 : PS X st t) (h2 : PSs X rest u) : PSs X (st :: rest) (tSeq t u) := by
 intro pins s σ H D I h
 refine wpAny_execs_cons (thn (h1 pins s σ H { D with nx := u D } I h) fun f s1 q => ?_)
 cases f with
 | next =>
  obtain ⟨σ', H', I', q⟩ := q
  exact h2 pins s1 σ' H' D I' q
 | ret v => exact q
 | brk => exact q
 | cont => exact q
theorem bO (h1 : PS X st t) : PSs X [st] t := by
 intro pins s σ H D I h
 refine wpAny_execs_cons (thn (h1 pins s σ H D I h) fun f s1 q => ?_)
 cases f with
 | next => exact wpAny_execs_nil q
 | ret v => exact q
 | brk => exact q
 | cont => exact q
theorem Inv.quiet {pins : List (Addr × Obj)} {σ : St} {H : Hp} {s : Shared} (I : Inv X pins σ H s) : interactive X.env = false := by simp [interactive, I.ok.kind]
def tDrop (te : TE) : TS := fun D σ H => te σ H fun _ H1 => D.nx σ H1
theorem ps_expr (he : PE X e te) (hs : swapsWith e none pos.line X.env = pure false := by rfl) : PS X (.Expr e pos) (tDrop te) := by
 intro pins s σ H D I h
 exact wpAny_Expr_any (thn (he pins s σ H _ I h) fun v s1 ⟨x, H1, I1, r1, q1⟩ => ⟨σ, H1, I1, q1⟩) I.quiet hs
def tRet (te : TE) : TS := fun D σ H => te σ H D.rt
theorem pRt (he : PE X e te) : PS X (.Return (some e) pos) (tRet te) := by
 intro pins s σ H D I h
 exact wpAny_Return_some (thn (he pins s σ H _ I h) fun v s1 ⟨x, H1, I1, r1, q1⟩ => ⟨x, σ, H1, I1, r1, q1⟩)
def tIfS (c : TT) (t u : TS) : TS := fun D σ H => c σ H fun b H1 => if b = true then t D σ H1 else u D σ H1
theorem ps_if {c : Expr} {a b : List Stmt} {tc : TT} (hc : PT X c tc) (ha : PSs X a t) (hb : PSs X b u) : PS X (.If c a b pos) (tIfS tc t u) := by
 intro pins s σ H D I h
 refine wpAny_If (thn (hc pins s σ H _ I h) fun d s1 ⟨H1, I1, q1⟩ => ?_)
 cases d with
 | true => exact ha pins s1 σ H1 D I1 q1
 | false => exact hb pins s1 σ H1 D I1 q1
def tNever : TS := fun _ _ _ => False
theorem ps_never : PS X st tNever := fun _ _ _ _ _ _ h => h.elim
end
abbrev TG := V -> St -> Hp -> (St -> Hp -> Prop) -> Prop
abbrev TGs := List V -> St -> Hp -> (St -> Hp -> Prop) -> Prop
def PG (X : Cx) (target : Expr) (t : TG) : Prop :=
 ∀ (pins : List (Addr × Obj)) (s : Shared) (σ : St) (H : Hp) (v : V) (u : Value) (Q : St -> Hp -> Prop), Inv X pins σ H s -> RelV v u -> t v σ H Q ->
  wpAny (model X.prog X.w) X.A (assign target X.env u) (fun _ s' => ∃ σ' H', Inv X pins σ' H' s' /\ Q σ' H') X.xe s
def PGs (X : Cx) (ts : List Expr) (t : TGs) : Prop :=
 ∀ (pins : List (Addr × Obj)) (s : Shared) (σ : St) (H : Hp) (vs : List V) (us : List Value) (Q : St -> Hp -> Prop), Inv X pins σ H s -> Vals vs us -> t vs σ H Q ->
  wpAny (model X.prog X.w) X.A (assignInOrder ((assignEach ts X.env).map (·.2)) us) (fun _ s' => ∃ σ' H', Inv X pins σ' H' s' /\ Q σ' H') X.xe s
abbrev TIp := V -> V -> Hp -> VK -> Prop
def PIp (X : Cx) (op : Operator) (t : TIp) : Prop :=
 ∀ (pins : List (Addr × Obj)) (s : Shared) (σ : St) (H : Hp) (x y : V) (v u : Value) (Q : VK), Inv X pins σ H s -> RelV x v -> RelV y u -> t x y H Q ->
  wpAny (model X.prog X.w) X.A (inplaceOp op v u) (EP X pins σ Q) X.xe s
section
variable {X : Cx} {pos : Pos}
def gName (i : Nat) : TG := fun v σ H Q => Q (σ.set i (some v)) H
theorem pg_name {i : Nat} {x : Str} (hN : X.N.Nodup) (hi : X.N[i]? = some x) (hx : Loc X.env.scope x) (hf : X.fn x = true \/ X.env.scope.names.lookup x = some .local := by first | exact .inl rfl | exact .inr rfl | assumption) : PG X (.Name x pos) (gName i) := by
 intro pins s σ H v u Q I r h
 exact wpAny_assign_Name (store_ok I hN hi hx r (fun s' I' => ⟨_, H, I', h⟩) hf)
def gNil : TGs := fun vs σ H Q => vs = [] /\ Q σ H
def gCons (t : TG) (u : TGs) : TGs := fun vs σ H Q => ∃ v r, vs = v :: r /\ t v σ H fun σ' H' => u r σ' H' Q
theorem pgs_nil : PGs X [] gNil := by
 intro pins s σ H vs us Q I r h
 obtain ⟨e, h⟩ := h
 subst e
 cases r
 exact assignInOrder_nil ⟨σ, H, I, h⟩
theorem pgs_cons {e : Expr} {es : List Expr} {t : TG} {u : TGs} (h1 : PG X e t) (h2 : PGs X es u)
  (hs : (assignEach (e :: es) X.env).map (·.2) = assign e X.env :: (assignEach es X.env).map (·.2) := by rfl) : PGs X (e :: es) (gCons t u) := by
 intro pins s σ H vs us Q I r h
 obtain ⟨v, vr, e1, h⟩ := h
 subst e1
 cases r with
 | cons r rr =>
  rw [hs]
  refine assignInOrder_cons (thn (h1 pins s σ H _ _ _ I r h) fun _ s1 ⟨σ1, H1, I1, q1⟩ => ?_)
  exact h2 pins s1 σ1 H1 _ _ Q I1 rr q1
def gTup (K : PySem.W.Frag) (n : Nat) (t : TGs) : TG := fun v σ H Q => ∃ a xs, v = .ref a /\ SqT K H a xs /\ xs.length = n /\ t xs σ H Q
theorem pg_tup {es : List Expr} {k : Nat} {t : TGs} {n : Nat} (hc : X.calm = true) (h : PGs X es t)
  (hn : (assignEach es X.env).length = n := by rfl) (hst : (assignEach es X.env).findIdx? (·.1) = none := by rfl) : PG X (.Tuple es k pos) (gTup X.K n t) := by
 intro pins s σ H v u Q I r hw
 obtain ⟨a, xs, e1, hq, hl, hw⟩ := hw
 subst e1
 cases r
 obtain ⟨its, rv, ht, hz⟩ := I.tuple hq
 refine assign_Tuple_tuple (I.ok.hd hc) ht (by simp [hn, <- hl, rv.length]) hst fun h' hx => ?_
 have I1 : Inv X pins σ H { s with heap := h' } := I.kept (t' := s.toks) fun b o e => hx b o (Nat.ne_of_lt (Heap.lt_size e)) e
 exact h pins _ σ H xs _ Q I1 (by simpa using rv) hw
def tAsg (te : TE) (g : TG) : TS := fun D σ H => te σ H fun x H1 => g x σ H1 D.nx
theorem ps_set {i : Nat} {x : Str} {e : Expr} {te : TE} {pos' : Pos} (hN : X.N.Nodup) (hi : X.N[i]? = some x) (hx : Loc X.env.scope x) (he : PE X e te) (hs : swapsWith e (some (.Name x pos')) pos.line X.env = pure false := by rfl) (hf : X.fn x = true \/ X.env.scope.names.lookup x = some .local := by first | exact .inl rfl | exact .inr rfl | assumption) :
  PS X (.Assign [.Name x pos'] e pos) (tAsg te (gName i)) := by
 intro pins s σ H D I h
 refine wpAny_Assign_Name (thn (he pins s σ H _ I h) fun v s1 ⟨y, H1, I1, r1, q1⟩ => ?_) hs
 exact store_ok I1 hN hi hx r1 (fun s2 I2 => ⟨_, H1, I2, q1⟩) hf
def tAug (i : Nat) (te : TE) (ti : TIp) : TS := fun D σ H => ∃ x, σ[i]? = some (some x) /\ te σ H fun y H1 => ti x y H1 fun z H2 => D.nx (σ.set i (some z)) H2
theorem ps_aug {i : Nat} {x : Str} {e : Expr} {te : TE} {op : Operator} {ti : TIp} {pos' : Pos} (hN : X.N.Nodup) (hi : X.N[i]? = some x) (hx : Loc X.env.scope x) (he : PE X e te) (ho : PIp X op ti) (hf : X.fn x = true \/ X.env.scope.names.lookup x = some .local := by first | exact .inl rfl | exact .inr rfl | assumption) :
  PS X (.AugAssign (.Name x pos') op e pos) (tAug i te ti) := by
 intro pins s σ H D I h
 obtain ⟨v, e1, h⟩ := h
 obtain ⟨m, hn, hl⟩ := I.loc
 have vis : Vis X.env.scope x := by rcases hx with k | k; exact .inl k; exact .inr (.inl k)
 obtain ⟨u, r, l⟩ := hl i x v hi e1 vis
 refine wpAny_AugAssign_Name ?_
 have go : wpAny (model X.prog X.w) X.A (eval e X.env) (fun w s₂ => wpAny (model X.prog X.w) X.A (inplaceOp op u w) (fun r s₃ => wpAny (model X.prog X.w) X.A (storeName X.env x r) (fun _ => SP X pins D .next) X.xe s₃) X.xe s₂) X.xe s := by
  refine thn (he pins s σ H _ I h) fun w s1 ⟨y, H1, I1, r1, q1⟩ => ?_
  refine thn (ho pins s1 σ H1 v y u w _ I1 r r1 q1) fun z s2 ⟨zv, H2, I2, r2, q2⟩ => ?_
  exact store_ok I2 hN hi hx r2 (fun s3 I3 => ⟨_, H2, I3, q2⟩) hf
 rcases l with ⟨hk, hm⟩ | ⟨hk, c, hc, hcell⟩
 ·exact wpAny_loadName_local I.ok.kind hk hn hm go
 ·rcases hk with hk | hk
  ·exact wpAny_loadName_cell I.ok.kind hk hc hcell go
  ·rcases hx with k | k
   ·have : X.env.scope.names.lookup x = some .free := hk
    rw [k] at this; cases this
   ·have : X.env.scope.names.lookup x = some .free := hk
    rw [k] at this; cases this
def ipI (f : Int -> Int -> Int) : TIp := fun x y H Q => ∃ i j, x = .int i /\ y = .int j /\ Q (.int (f i j)) H
theorem ip_add : PIp X .Add (ipI fun i j => i + j) := by
 intro pins s σ H x y v u Q I r1 r2 h
 obtain ⟨i, j, e1, e2, q⟩ := h
 subst e1; subst e2
 obtain ⟨t, rfl⟩ := r1
 obtain ⟨t', rfl⟩ := r2
 exact iadd_int ⟨.int _, H, I.tok _, ⟨_, rfl⟩, q⟩
end
section
variable {X : Cx} {pos : Pos}
def tWhile (c : TT) (tb : TS) : TS := fun D σ H => ∃ W : Nat -> St -> Hp -> Prop, (∃ m, W m σ H) /\ ∀ m σ H, W m σ H ->
 c σ H fun b H1 => if b = true then ∃ N : St -> Hp -> Prop, (∀ σ' H', N σ' H' -> ∃ m', m' < m /\ W m' σ' H') /\ tb { D with nx := N, ct := N, bk := D.nx } σ H1 else D.nx σ H1
theorem ps_while {c : Expr} {body : List Stmt} {tc : TT} {tb : TS} (hp : PassesOwn (model X.prog X.w) X.A X.env X.xe) (hc : PT X c tc) (hb : PSs X body tb) : PS X (.While c body [] pos) (tWhile tc tb) := by
 intro pins s σ H D I h
 obtain ⟨W, ⟨m0, w0⟩, turn⟩ := h
 refine wpAny_While (codeAny_whileLoop (fun n s' => ∃ σ' H', Inv X pins σ' H' s' /\ W n σ' H') ?_ m0 ⟨σ, H, I, w0⟩)
 rintro n s1 ⟨σ1, H1, I1, w1⟩
 refine wpAny_passesOwn hp (thn (hc pins s1 σ1 H1 _ I1 (turn n σ1 H1 w1)) fun b s2 ⟨H2, I2, q2⟩ => ?_)
 cases b with
 | true =>
  obtain ⟨N, hN, q2⟩ := q2
  rw [if_pos rfl]
  refine wpAny_passesOwn hp (thn (hb pins s2 σ1 H2 _ I2 q2) fun f s3 q3 => ?_)
  cases f with
  | next =>
   obtain ⟨σ3, H3, I3, n3⟩ := q3
   obtain ⟨m', hm, w3⟩ := hN σ3 H3 n3
   exact ⟨m', hm, σ3, H3, I3, w3⟩
  | cont =>
   obtain ⟨σ3, H3, I3, n3⟩ := q3
   obtain ⟨m', hm, w3⟩ := hN σ3 H3 n3
   exact ⟨m', hm, σ3, H3, I3, w3⟩
  | brk => exact q3
  | ret v => exact q3
 | false =>
  rw [if_neg Bool.false_ne_true]
  exact wpAny_execs_nil ⟨σ1, H2, I2, q2⟩
end
structure It where
 go : Nat -> Hp -> Prop
 yld : Nat -> Hp -> V -> Hp -> Prop
 stop : Nat -> Hp -> Prop
def FpOk (X : Cx) (pins : List (Addr × Obj)) (H : Hp) (b : Addr) : Prop :=
 H b = none /\ b ≠ X.env.locals /\ b ∉ X.fs /\ (b ∈ X.ex \/ X.s_0.heap.objs.size <= b) /\ (∀ x c, X.env.cells.lookup x = some c -> c ≠ b) /\ ∀ p ∈ X.pn ++ pins, p.1 ≠ b
theorem Inv.fpOk {X : Cx} {pins : List (Addr × Obj)} {σ : St} {H H' : Hp} {s : Shared} {b : Addr} (I : Inv X pins σ H s) (hb : s.heap.objs.size <= b) (hn : H' b = none) : FpOk X pins H' b := by
 refine ⟨hn, Nat.ne_of_gt (Nat.lt_of_lt_of_le I.lt hb), I.nofs hb, .inr (Nat.le_trans I.sz hb), fun x c e z => ?_, fun p hp z => ?_⟩
 ·obtain ⟨v, q⟩ := I.cell x c e
  exact absurd (Nat.lt_of_lt_of_le q.lt (by rw [z]; exact hb)) (Nat.lt_irrefl _)
 ·exact absurd (Nat.lt_of_lt_of_le (Heap.lt_size (I.pin p hp).1) (by rw [z]; exact hb)) (Nat.lt_irrefl _)
structure Turn (P : Program) (w : World) (K : PySem.W.Frag) (tg : Expr) (J : It) (fp : List Addr) (it : Addr) (tn : Nat -> Heap -> Prop) : Prop where
 mem : it ∈ fp
 obj : ∀ i h, tn i h -> ∀ b ∈ fp, ∃ o, h.get? b = some o /\ ∀ v, o.data ≠ .cell v
 keep : ∀ i h h', tn i h -> (∀ b ∈ fp, ∀ o, h.get? b = some o -> h'.get? b = some o) -> tn i h'
 item : ∀ (X : Cx), X.prog = P -> X.w = w -> X.K = K -> X.calm = true -> ∀ (i : Nat) (pins : List (Addr × Obj)) (s : Shared) (σ : St) (H : Hp) (E : Value -> Shared -> Prop), Inv X pins σ H s -> (∀ b ∈ fp, FpOk X pins H b) -> tn i s.heap -> J.go i H ->
  wpAny (model P w) X.A (pyNext (.ref it)) (fun r s1 => ∃ u, r = some u /\
   wpAny (model P w) X.A (letOwnedTupleGo tg (.ref it) u) (fun _ s2 => ∃ x H', Inv X pins σ H' s2 /\ RelV x u /\ J.yld i H x H' /\ tn (i + 1) s2.heap /\ ∀ b ∈ fp, H' b = none) E s1) E s
 done : ∀ (X : Cx), X.prog = P -> X.w = w -> X.K = K -> X.calm = true -> ∀ (i : Nat) (pins : List (Addr × Obj)) (s : Shared) (σ : St) (H : Hp) (E : Value -> Shared -> Prop), Inv X pins σ H s -> (∀ b ∈ fp, FpOk X pins H b) -> tn i s.heap -> J.stop i H ->
  wpAny (model P w) X.A (pyNext (.ref it)) (fun r s1 => r = none /\ Inv X pins σ H s1) E s
 self : ∀ (A : Around) (i : Nat) (s : Shared) (Q : Value -> Shared -> Prop) (E : Value -> Shared -> Prop), tn i s.heap -> Q (.ref it) s -> wpAny (model P w) A (pyIter (.ref it)) Q E s
abbrev TI := St -> Hp -> (It -> Hp -> Prop) -> Prop
def PIE (X : Cx) (pins : List (Addr × Obj)) (σ : St) (tg : Expr) (R : It -> Hp -> Prop) (itv : Value) (s2 : Shared) : Prop :=
 ∃ (it : Addr) (fp : List Addr) (tn : Nat -> Heap -> Prop) (J : It) (H' : Hp), itv = .ref it /\ Inv X pins σ H' s2 /\ Turn X.prog X.w X.K tg J fp it tn /\ tn 0 s2.heap /\ (∀ b ∈ fp, FpOk X pins H' b) /\ R J H'
def PI (X : Cx) (tg iter : Expr) (wi : TI) : Prop :=
 ∀ (pins : List (Addr × Obj)) (s : Shared) (σ : St) (H : Hp) (R : It -> Hp -> Prop), Inv X pins σ H s -> wi σ H R ->
  wpAny (model X.prog X.w) X.A (eval iter X.env) (fun v s1 => wpAny (model X.prog X.w) X.A (pyIter v) (PIE X pins σ tg R) X.xe s1) X.xe s
theorem go_of {M : Model} {A : Around} {E : Value -> Shared -> Prop} {s : Shared} {tg : Expr} {it : Addr} {u : Value} {o : Obj} {n : String} {vs : Array Value} {Q : Unit -> Shared -> Prop} (ho : s.heap.get? it = some o) (hc : o.cls = .type n) (hd : o.data = .fields vs)
  (hn : ["enumerate", "zip", "dict_itemiterator", "dict_reverseitemiterator", "odict_iterator", "itertools.zip_longest", "itertools.pairwise"].contains n = false) (hQ : Q () s) : wpAny M A (letOwnedTupleGo tg (.ref it) u) Q E s := by
 unfold letOwnedTupleGo
 cases tg <;> first
  | exact wpAny_pure hQ
  | (cases u <;> first
    | exact wpAny_pure hQ
    | (refine wpAny_bind (wpAny_load ho ?_)
       rw [hc, hd]
       show wpAny M A (if (["enumerate", "zip", "dict_itemiterator", "dict_reverseitemiterator", "odict_iterator", "itertools.zip_longest", "itertools.pairwise"].contains n && vs[0]? == some (rawInt _)) = true then _ else _) Q E s
       rw [if_neg (by intro h; rw [hn, Bool.false_and] at h; cases h)]
       exact wpAny_pure hQ))
def Itl (K : PySem.W.Frag) (a : Addr) : It :=
 ⟨fun i H => ∃ xs x, SqL K H a xs /\ xs[i]? = some x, fun i H x H' => H' = H /\ ∀ xs, SqL K H a xs -> xs[i]? = some x, fun i H => ∃ xs, SqL K H a xs /\ xs.length <= i⟩
def Itr (lo : Int) (n : Nat) : It := ⟨fun i _ => i < n, fun i H x H' => H' = H /\ x = .int (lo + i), fun i _ => n <= i⟩
theorem turn_list {P : Program} {w : World} {K : PySem.W.Frag} {tg : Expr} (a it : Addr) : Turn P w K tg (Itl K a) [it] it (fun i h => h.IsListIter it a i) where
 mem := by simp
 obj := fun i h st b hb => by
  have e : b = it := by simpa using hb
  subst e
  obtain ⟨o, e, c, d⟩ := st
  exact ⟨o, e, fun v z => by rw [d] at z; cases z⟩
 keep := fun i h h' st k => st.at fun o e => k it (by simp) o e
 item := by
  intro X hP hw hK hc i pins s σ H E I hf st hg
  subst hP hw hK
  obtain ⟨xs, x, hq, hx⟩ := hg
  obtain ⟨its, rv, p, hz⟩ := I.list hq
  obtain ⟨u, hu, ru⟩ := rv.get hx
  obtain ⟨f0, f1, f2, f3, f4, f5⟩ := hf it (by simp)
  refine wpAny_pyNext_list_item st p.isList (x := u) (by simpa using hu) fun h' st' sb => ?_
  have I1 : Inv X pins σ H { s with heap := h' } := I.turned (t' := s.toks) (fun b o hb e => (sb.2 b hb).trans e) f0 f1 f3 f4 f5
  obtain ⟨o, e, c, d⟩ := id st'
  exact ⟨u, rfl, go_of (s := { s with heap := h' }) e c d (by decide) ⟨x, H, I1, ru, ⟨rfl, fun ys hy => by rw [I.list_inj hy hq]; exact hx⟩, st', fun b hb => (hf b hb).1⟩⟩
 done := by
  intro X hP hw hK hc i pins s σ H E I hf st hg
  subst hP hw hK
  obtain ⟨xs, hq, hx⟩ := hg
  obtain ⟨its, rv, p, hz⟩ := I.list hq
  obtain ⟨f0, f1, f2, f3, f4, f5⟩ := hf it (by simp)
  have hl := rv.length
  exact wpAny_pyNext_list_end (I.ok.hd hc) st p.isList (by simp; omega) fun h' eb => ⟨rfl, I.turned (t' := s.toks) (fun b o hb e => eb b o hb e) f0 f1 f3 f4 f5⟩
 self := fun _ _ _ _ _ st h => wpAny_pyIter_listiter st h
theorem turn_range {P : Program} {w : World} {K : PySem.W.Frag} {tg : Expr} (it : Addr) (lo : Int) (n : Nat) : Turn P w K tg (Itr lo n) [it] it (fun i h => IsRangeIter h it (lo + (i : Nat) * 1) ((n : Int) - (i : Nat)) 1) where
 mem := by simp
 obj := fun i h st b hb => by
  have e : b = it := by simpa using hb
  subst e
  exact ⟨_, st, fun v z => by
   have z' : Data.fields _ = Data.cell v := z
   cases z'⟩
 keep := fun i h h' st k => k it (by simp) _ st
 item := by
  intro X hP hw hK hc i pins s σ H E I hf st hg
  subst hP hw hK
  obtain ⟨f0, f1, f2, f3, f4, f5⟩ := hf it (by simp)
  have W := Walks.range (prog := X.prog) (w := X.w) (I.ok.hd hc) it lo 1 n
  refine W.item i s _ _ hg st fun v h' tk hv st' kk => ?_
  obtain ⟨t, rfl⟩ := hv
  have I1 : Inv X pins σ H { s with heap := h', toks := tk } := I.turned (fun b o hb e => kk b o (by simpa using hb) e) f0 f1 f3 f4 f5
  refine ⟨_, rfl, go_of (s := { s with heap := h', toks := tk }) (n := "range_iterator") st' rfl rfl (by decide) ⟨.int (lo + i), H, I1, ⟨t, ?_⟩, ⟨rfl, rfl⟩, st', fun b hb => (hf b hb).1⟩⟩
  rw [Int.mul_one]
 done := by
  intro X hP hw hK hc i pins s σ H E I hf st hg
  subst hP hw hK
  obtain ⟨f0, f1, f2, f3, f4, f5⟩ := hf it (by simp)
  exact wpAny_pyNext_range_end (I.ok.hd hc) st (by have : n <= i := hg; omega) fun h' eb => ⟨rfl, I.turned (t' := s.toks) (fun b o hb e => eb b o hb e) f0 f1 f3 f4 f5⟩
 self := fun _ _ _ _ _ st h => wpAny_pyIter_rangeiter st h
end L2
namespace L2
open PySem PySem.Spec PyProof.Rows
section
variable {X : Cx} {tg : Expr}
def iList (K : PySem.W.Frag) (tl : TE) : TI := fun σ H R => tl σ H fun x H1 => ∃ a, x = .ref a /\ (∃ xs, SqL K H1 a xs) /\ R (Itl K a) H1
theorem pi_list {l : Expr} {tl : TE} (hl : PE X l tl) : PI X tg l (iList X.K tl) := by
 intro pins s σ H R I h
 refine thn (hl pins s σ H _ I h) fun v s1 ⟨x, H1, I1, r1, q1⟩ => ?_
 obtain ⟨a, e, ⟨xs, hq⟩, q⟩ := q1
 subst e
 cases r1
 obtain ⟨its, rv, p, hz⟩ := I1.list hq
 refine wpAny_pyIter_list p.isList ?_
 refine ⟨s1.heap.objs.size, [s1.heap.objs.size], _, _, H1, rfl, I1.kept (t' := s1.toks) fun b o e => Heap.get?_push_of_some _ e, turn_list a _, ⟨_, Heap.get?_push_size _ rfl, rfl, rfl⟩, fun b hb => ?_, q⟩
 have e : b = s1.heap.objs.size := by simpa using hb
 subst e
 exact I1.fpOk (Nat.le_refl _) (I1.hok.fresh (Nat.le_refl _))
theorem range_it {pins : List (Addr × Obj)} {σ : St} {H : Hp} {s : Shared} {R : It -> Hp -> Prop} {E : Value -> Shared -> Prop} {lo hi : Int} {t u v : Tok} {tk : Nat} (I : Inv X pins σ H s) (h1 : -(2 ^ 62) <= lo) (h2 : lo < 2 ^ 62) (h3 : -(2 ^ 62) <= hi) (h4 : hi < 2 ^ 62)
  (q : R (Itr lo (hi - lo).toNat) H) : wpAny (model X.prog X.w) X.A (pyIter (.ref s.heap.objs.size)) (PIE X pins σ tg R) E { s with heap := s.heap.push { cls := .type "range", data := .fields #[.int lo t, .int hi u, .int 1 v] }, toks := tk } := by
 refine wpAny_pyIter_range (IsRange.new ..) (small_one h1 h2 h3 h4) ?_
 have I1 : Inv X pins σ H { s with heap := s.heap.push { cls := .type "range", data := .fields #[.int lo t, .int hi u, .int 1 v] }, toks := tk } := I.kept fun b o e => Heap.get?_push_of_some _ e
 refine ⟨(s.heap.push { cls := .type "range", data := .fields #[.int lo t, .int hi u, .int 1 v] }).objs.size, [(s.heap.push { cls := .type "range", data := .fields #[.int lo t, .int hi u, .int 1 v] }).objs.size], _, _, H, rfl,
  I1.kept (t' := tk) fun b o e => Heap.get?_push_of_some _ e, turn_range _ lo (hi - lo).toNat, ?_, fun b hb => ?_, q⟩
 ·have e1 : lo + ((0 : Nat) : Int) * 1 = lo := by simp
  have e2 : (((hi - lo).toNat : Nat) : Int) - ((0 : Nat) : Int) = Builtin.Range.rangeSize lo hi 1 := by rw [rangeSize_one]; split <;> omega
  show IsRangeIter _ _ (lo + ((0 : Nat) : Int) * 1) ((((hi - lo).toNat : Nat) : Int) - ((0 : Nat) : Int)) 1
  rw [e1, e2]
  exact Heap.get?_push_size _ rfl
 ·have e : b = (s.heap.push { cls := .type "range", data := .fields #[.int lo t, .int hi u, .int 1 v] }).objs.size := by simpa using hb
  subst e
  exact I1.fpOk (Nat.le_refl _) (I1.hok.fresh (Nat.le_refl _))
def iRng1 (ta : TA) : TI := fun σ H R => ta σ H fun vs H1 => ∃ j : Int, vs = [.int j] /\ -(2 ^ 62) <= j /\ j < 2 ^ 62 /\ R (Itr 0 j.toNat) H1
theorem pi_range1 {a : Expr} {ta : TA} {p pos : Pos} (hg : Gl X "range") (hm : X.mg "range" = none) (ha : PA X [a] ta) (hs : starEach [a] X.env = [(false, eval a X.env)] := by rfl) : PI X tg (.Call (.Name "range" p) [a] [] pos) (iRng1 ta) := by
 intro pins s σ H R I h
 refine Call_ (ld_blt I hg hm boot_range (PyProof.Rows.callWith_type1 (thn (ha pos pins s σ H _ I h) fun us s1 ⟨vs, H1, I1, r1, q1⟩ => ?_) hs rfl))
 obtain ⟨j, e, q1, q2, q⟩ := q1
 subst e
 cases r1 with
 | cons r rr =>
  cases rr
  obtain ⟨t, rfl⟩ := r
  exact call_range_1 (range_it I1 (by omega) (by omega) q1 q2 (by simpa using q))
def tFor (wi : TI) (g : TG) (tb : TS) : TS := fun D σ H => wi σ H fun J H1 => ∃ W : Nat -> Nat -> St -> Hp -> Prop, (∃ m, W 0 m σ H1) /\ ∀ i m σ H, W i m σ H ->
 (J.stop i H /\ D.nx σ H) \/ (J.go i H /\ ∃ N : St -> Hp -> Prop, (∀ σ' H', N σ' H' -> ∃ m', m' < m /\ W (i + 1) m' σ' H') /\ ∀ x H', J.yld i H x H' -> g x σ H' fun σ2 H2 => tb { D with nx := N, ct := N, bk := D.nx } σ2 H2)
def pinsAt (fp : List Addr) (h : Heap) : List (Addr × Obj) := fp.filterMap fun b => (h.get? b).map fun o => (b, o)
theorem mem_pinsAt {fp : List Addr} {h : Heap} {b : Addr} {o : Obj} (hb : b ∈ fp) (e : h.get? b = some o) : (b, o) ∈ pinsAt fp h := List.mem_filterMap.mpr ⟨b, hb, by rw [e]; rfl⟩
theorem of_pinsAt {fp : List Addr} {h : Heap} {p : Addr × Obj} (hp : p ∈ pinsAt fp h) : p.1 ∈ fp /\ h.get? p.1 = some p.2 := by
 obtain ⟨b, hb, e⟩ := List.mem_filterMap.mp hp
 cases q : h.get? b with
 | none => rw [q] at e; cases e
 | some o =>
  rw [q] at e
  have e' : (b, o) = p := Option.some.inj e
  subst e'
  exact ⟨hb, q⟩
theorem Inv.pinned {pins : List (Addr × Obj)} {σ : St} {H : Hp} {s : Shared} {fp : List Addr} (I : Inv X pins σ H s) (hf : ∀ b ∈ fp, FpOk X pins H b) (ho : ∀ b ∈ fp, ∃ o, s.heap.get? b = some o /\ ∀ v, o.data ≠ .cell v) : Inv X (pins ++ pinsAt fp s.heap) σ H s :=
 I.pins_of fun p hp => (List.mem_append.mp hp).elim (fun z => I.pin p (List.mem_append_right _ z)) fun z => by
  obtain ⟨hb, e⟩ := of_pinsAt z
  obtain ⟨f0, f1, f2, _⟩ := hf p.1 hb
  obtain ⟨o, e', d⟩ := ho p.1 hb
  rw [e] at e'; cases e'
  exact ⟨e, f0, f1, f2, d⟩
theorem Inv.unpinned {pins pl : List (Addr × Obj)} {σ : St} {H : Hp} {s : Shared} (I : Inv X (pins ++ pl) σ H s) : Inv X pins σ H s := I.pins_of fun p hp => I.pin p (List.mem_append_right _ (List.mem_append_left _ hp))
theorem ps_for {iter : Expr} {body : List Stmt} {wi : TI} {g : TG} {tb : TS} {pos : Pos} (hp : PassesOwn (model X.prog X.w) X.A X.env X.xe) (hc : X.calm = true) (hi : PI X tg iter wi) (hg : PG X tg g) (hb : PSs X body tb)
  (hs : ∀ x, foldedSetIterable iter X.env x = pure x := by intro _; rfl) : PS X (.For tg iter body [] pos) (tFor wi g tb) := by
 intro pins s σ H D I h
 refine wpAny_For (thn (hi pins s σ H _ I h) fun v s1 h1 => thn h1 fun itv s2 h2 => ?_) hs
 obtain ⟨it, fp, tn, J, H2, e, I2, T, st2, f2, W, ⟨m0, w0⟩, turn⟩ := h2
 subst e
 have stat : ∀ {H' : Hp}, (∀ b ∈ fp, H' b = none) -> ∀ b ∈ fp, FpOk X pins H' b := fun hn b hb => ⟨hn b hb, (f2 b hb).2⟩
 refine codeAny_forLoop_any (fun n s' => ∃ i σ' H', Inv X pins σ' H' s' /\ tn i s'.heap /\ (∀ b ∈ fp, H' b = none) /\ W i n σ' H') ?_ m0 ⟨0, σ, H2, I2, st2, fun b hb => (f2 b hb).1, w0⟩
 rintro n s3 ⟨i, σ3, H3, I3, st3, fr3, w3⟩
 rcases turn i n σ3 H3 w3 with ⟨stop, qn⟩ | ⟨go, N, hN, step⟩
 ·refine wpAny_passesOwn hp (thn (T.done X rfl rfl rfl hc i pins s3 σ3 H3 X.xe I3 (stat fr3) st3 stop) fun r s4 ⟨hr, I4⟩ => ?_)
  subst hr
  exact wpAny_execs_nil ⟨σ3, H3, I4, qn⟩
 ·refine wpAny_passesOwn hp (thn (T.item X rfl rfl rfl hc i pins s3 σ3 H3 X.xe I3 (stat fr3) st3 go) fun r s4 ⟨u, hr, h4⟩ => ?_)
  subst hr
  refine wpAny_passesOwn hp (thn h4 fun _ s5 ⟨x, H5, I5, r5, y5, st5, fr5⟩ => ?_)
  have I5' := I5.pinned (stat fr5) (T.obj _ _ st5)
  refine wpAny_passesOwn hp (thn (hg _ s5 σ3 H5 x u _ I5' r5 (step x H5 y5)) fun _ s6 ⟨σ6, H6, I6, q6⟩ => ?_)
  refine wpAny_passesOwn hp (thn (hb _ s6 σ6 H6 _ I6 q6) fun f s7 q7 => ?_)
  have again : ∀ {σ7 : St} {H7 : Hp}, Inv X (pins ++ pinsAt fp s5.heap) σ7 H7 s7 -> N σ7 H7 -> ∃ m, m < n /\ ∃ i σ' H', Inv X pins σ' H' s7 /\ tn i s7.heap /\ (∀ b ∈ fp, H' b = none) /\ W i m σ' H' := fun {σ7 H7} I7 n7 => by
   obtain ⟨m', hm, w7⟩ := hN σ7 H7 n7
   refine ⟨m', hm, i + 1, σ7, H7, I7.unpinned, T.keep _ _ _ st5 fun b hb o e => (I7.pin (b, o) (List.mem_append_right _ (List.mem_append_right _ (mem_pinsAt hb e)))).1, fun b hb => ?_, w7⟩
   obtain ⟨o, e, d⟩ := T.obj _ _ st5 b hb
   exact (I7.pin (b, o) (List.mem_append_right _ (List.mem_append_right _ (mem_pinsAt hb e)))).2.1
  cases f with
  | next => obtain ⟨σ7, H7, I7, n7⟩ := q7; exact again I7 n7
  | cont => obtain ⟨σ7, H7, I7, n7⟩ := q7; exact again I7 n7
  | brk => obtain ⟨σ7, H7, I7, q7⟩ := q7; exact ⟨σ7, H7, I7.unpinned, q7⟩
  | ret v => obtain ⟨x7, σ7, H7, I7, r7, q7⟩ := q7; exact ⟨x7, σ7, H7, I7.unpinned, r7, q7⟩
end
theorem for_list {K : PySem.W.Frag} {a : Addr} {xs : List V} {g : TG} {tb : TS} {D : Ends} {σ : St} {H : Hp} (Pv : Nat -> St -> Hp -> Prop) (h0 : Pv 0 σ H) (hl : ∀ i σ H, i <= xs.length -> Pv i σ H -> SqL K H a xs)
  (hs : ∀ i x σ H, xs[i]? = some x -> Pv i σ H -> g x σ H fun σ2 H2 => tb { D with nx := Pv (i + 1), ct := Pv (i + 1), bk := D.nx } σ2 H2) (hd : ∀ σ H, Pv xs.length σ H -> D.nx σ H) :
  ∃ W : Nat -> Nat -> St -> Hp -> Prop, (∃ m, W 0 m σ H) /\ ∀ i m σ H, W i m σ H ->
   ((Itl K a).stop i H /\ D.nx σ H) \/ ((Itl K a).go i H /\ ∃ N : St -> Hp -> Prop, (∀ σ' H', N σ' H' -> ∃ m', m' < m /\ W (i + 1) m' σ' H') /\ ∀ x H', (Itl K a).yld i H x H' -> g x σ H' fun σ2 H2 => tb { D with nx := N, ct := N, bk := D.nx } σ2 H2) := by
 refine ⟨fun i m σ H => m = xs.length - i /\ i <= xs.length /\ Pv i σ H, ⟨xs.length, by simp, Nat.zero_le _, h0⟩, ?_⟩
 rintro i m σ H ⟨rfl, hi, p⟩
 have q := hl i σ H hi p
 by_cases hlt : i < xs.length
 ·refine .inr ⟨⟨xs, xs[i], q, by simp [hlt]⟩, Pv (i + 1), fun σ' H' p' => ⟨xs.length - (i + 1), by omega, rfl, hlt, p'⟩, fun x H' y => ?_⟩
  obtain ⟨e, y⟩ := y
  subst e
  exact hs i x σ _ (y xs q) p
 ·have e : i = xs.length := by omega
  subst e
  exact .inl ⟨⟨xs, q, Nat.le_refl _⟩, hd σ H p⟩
theorem for_range {lo : Int} {n : Nat} {g : TG} {tb : TS} {D : Ends} {σ : St} {H : Hp} (Pv : Nat -> St -> Hp -> Prop) (h0 : Pv 0 σ H)
  (hs : ∀ i σ H, i < n -> Pv i σ H -> g (.int (lo + i)) σ H fun σ2 H2 => tb { D with nx := Pv (i + 1), ct := Pv (i + 1), bk := D.nx } σ2 H2) (hd : ∀ σ H, Pv n σ H -> D.nx σ H) :
  ∃ W : Nat -> Nat -> St -> Hp -> Prop, (∃ m, W 0 m σ H) /\ ∀ i m σ H, W i m σ H ->
   ((Itr lo n).stop i H /\ D.nx σ H) \/ ((Itr lo n).go i H /\ ∃ N : St -> Hp -> Prop, (∀ σ' H', N σ' H' -> ∃ m', m' < m /\ W (i + 1) m' σ' H') /\ ∀ x H', (Itr lo n).yld i H x H' -> g x σ H' fun σ2 H2 => tb { D with nx := N, ct := N, bk := D.nx } σ2 H2) := by
 refine ⟨fun i m σ H => m = n - i /\ i <= n /\ Pv i σ H, ⟨n, by simp, Nat.zero_le _, h0⟩, ?_⟩
 rintro i m σ H ⟨rfl, hi, p⟩
 by_cases hlt : i < n
 ·refine .inr ⟨hlt, Pv (i + 1), fun σ' H' p' => ⟨n - (i + 1), by omega, rfl, hlt, p'⟩, fun x H' y => ?_⟩
  obtain ⟨e, y⟩ := y
  subst e y
  exact hs i σ _ hlt p
 ·have e : i = n := by omega
  subst e
  exact .inl ⟨Nat.le_refl _, hd σ H p⟩
theorem while_by {c : TT} {tb : TS} {D : Ends} {σ : St} {H : Hp} (Pv : St -> Hp -> Prop) (μ : St -> Hp -> Nat) (h0 : Pv σ H)
  (hs : ∀ σ H, Pv σ H -> c σ H fun b H1 => if b = true then tb { D with nx := fun σ' H' => Pv σ' H' /\ μ σ' H' < μ σ H, ct := fun σ' H' => Pv σ' H' /\ μ σ' H' < μ σ H, bk := D.nx } σ H1 else D.nx σ H1)
  (mono : ∀ σ H Q Q', (∀ b H1, Q b H1 -> Q' b H1) -> c σ H Q -> c σ H Q') : tWhile c tb D σ H := by
 refine ⟨fun m σ H => m = μ σ H /\ Pv σ H, ⟨_, rfl, h0⟩, ?_⟩
 rintro m σ H ⟨rfl, p⟩
 refine mono σ H _ _ (fun b H1 q => ?_) (hs σ H p)
 cases b with
 | true => exact ⟨_, fun σ' H' ⟨p', l⟩ => ⟨_, l, rfl, p'⟩, q⟩
 | false => exact q
end L2
namespace L2
open PySem PySem.Spec PyProof.Rows
abbrev R2 := V -> V -> Hp -> VK -> Prop
def OpR (X : Cx) (f : Value -> Value -> Sem Value) (r : R2) : Prop :=
 ∀ (pins : List (Addr × Obj)) (s : Shared) (σ : St) (H : Hp) (x y : V) (v u : Value) (Q : VK), Inv X pins σ H s -> RelV x v -> RelV y u -> r x y H Q ->
  wpAny (model X.prog X.w) X.A (f v u) (EP X pins σ Q) X.xe s
def UnR (X : Cx) (f : Value -> Sem Value) (r : V -> Hp -> VK -> Prop) : Prop :=
 ∀ (pins : List (Addr × Obj)) (s : Shared) (σ : St) (H : Hp) (x : V) (v : Value) (Q : VK), Inv X pins σ H s -> RelV x v -> r x H Q ->
  wpAny (model X.prog X.w) X.A (f v) (EP X pins σ Q) X.xe s
def CallR (X : Cx) (f : Value) (r : List V -> Hp -> VK -> Prop) : Prop :=
 ∀ (pins : List (Addr × Obj)) (s : Shared) (σ : St) (H : Hp) (xs : List V) (us : List Value) (Q : VK), Inv X pins σ H s -> Vals xs us -> r xs H Q ->
  wpAny (model X.prog X.w) X.A (call f us) (EP X pins σ Q) X.xe s
def TruR (X : Cx) (r : V -> Hp -> (Bool -> Hp -> Prop) -> Prop) : Prop :=
 ∀ (pins : List (Addr × Obj)) (s : Shared) (σ : St) (H : Hp) (x : V) (v : Value) (Q : Bool -> Hp -> Prop), Inv X pins σ H s -> RelV x v -> r x H Q ->
  wpAny (model X.prog X.w) X.A (truthy v) (TP X pins σ Q) X.xe s
def tOp (r : R2) (ta tb : TE) : TE := fun σ H Q => ta σ H fun x H1 => tb σ H1 fun y H2 => r x y H2 Q
def tUn (r : V -> Hp -> VK -> Prop) (ta : TE) : TE := fun σ H Q => ta σ H fun x H1 => r x H1 Q
def rI (C : Int -> Int -> Prop) (g : Int -> Int -> V) : R2 := fun x y H Q => ∃ i j, x = .int i /\ y = .int j /\ C i j /\ Q (g i j) H
def rI0 (g : Int -> Int -> V) : R2 := fun x y H Q => ∃ i j, x = .int i /\ y = .int j /\ Q (g i j) H
def rU (g : Int -> V) : V -> Hp -> VK -> Prop := fun x H Q => ∃ i, x = .int i /\ Q (g i) H
section
variable {X : Cx} {a b c : Expr} {ta tb tc : TE} {pos : Pos}
theorem binT (ha : PE X a ta) (hb : PE X b tb) {pins : List (Addr × Obj)} {s : Shared} {σ : St} {H : Hp} {R : V -> V -> Hp -> Prop} (I : Inv X pins σ H s)
  (h : ta σ H fun x H1 => tb σ H1 fun y H2 => R x y H2) {Q : Value -> Shared -> Prop} {f : Value -> Value -> Sem Value}
  (hf : ∀ v u s2 x y H2, Inv X pins σ H2 s2 -> RelV x v -> RelV y u -> R x y H2 -> wpAny (model X.prog X.w) X.A (f v u) Q X.xe s2) :
  wpAny (model X.prog X.w) X.A (eval a X.env) (fun v s₁ => wpAny (model X.prog X.w) X.A (eval b X.env) (fun u s₂ => wpAny (model X.prog X.w) X.A (f v u) Q X.xe s₂) X.xe s₁) X.xe s := by
 refine thn (ha pins s σ H _ I h) fun v s1 ⟨x, H1, I1, r1, q1⟩ => ?_
 refine thn (hb pins s1 σ H1 _ I1 q1) fun u s2 ⟨y, H2, I2, r2, q2⟩ => ?_
 exact hf v u s2 x y H2 I2 r1 r2 q2
theorem pe_op {op : Operator} {r : R2} (ho : OpR X (binaryOp op) r) (ha : PE X a ta) (hb : PE X b tb) : PE X (.BinOp a op b pos) (tOp r ta tb) := by
 intro pins s σ H Q I h
 exact wpAny_BinOp (binT ha hb I h fun v u s2 x y H2 I2 rx ry q => ho pins s2 σ H2 x y v u Q I2 rx ry q)
theorem pe_un {op : UnaryOp} {r : V -> Hp -> VK -> Prop} (ho : UnR X (unaryOp op) r) (ha : PE X a ta) : PE X (.UnaryOp op a pos) (tUn r ta) := by
 intro pins s σ H Q I h
 exact UnaryOp_ (thn (ha pins s σ H _ I h) fun v s1 ⟨x, H1, I1, r1, q1⟩ => ho pins s1 σ H1 x v Q I1 r1 q1)
theorem opI {f : Value -> Value -> Sem Value} {C : Int -> Int -> Prop} {g : Int -> Int -> Int}
  (rule : ∀ (i j : Int) (t u : Tok) (s : Shared) (Q : Value -> Shared -> Prop) (E : Value -> Shared -> Prop), C i j -> Q (.int (g i j) s.toks) { s with toks := s.toks + 1 } -> wpAny (model X.prog X.w) X.A (f (.int i t) (.int j u)) Q E s) :
  OpR X f (rI C fun i j => .int (g i j)) := by
 intro pins s σ H x y v u Q I rx ry h
 obtain ⟨i, j, rfl, rfl, hc, q⟩ := h
 obtain ⟨t, rfl⟩ := rx
 obtain ⟨t', rfl⟩ := ry
 exact rule i j t t' s _ _ hc ⟨.int (g i j), H, I.tok _, ⟨_, rfl⟩, q⟩
theorem opI0 {f : Value -> Value -> Sem Value} {g : Int -> Int -> Int}
  (rule : ∀ (i j : Int) (t u : Tok) (s : Shared) (Q : Value -> Shared -> Prop) (E : Value -> Shared -> Prop), Q (.int (g i j) s.toks) { s with toks := s.toks + 1 } -> wpAny (model X.prog X.w) X.A (f (.int i t) (.int j u)) Q E s) :
  OpR X f (rI0 fun i j => .int (g i j)) := by
 intro pins s σ H x y v u Q I rx ry h
 obtain ⟨i, j, rfl, rfl, q⟩ := h
 obtain ⟨t, rfl⟩ := rx
 obtain ⟨t', rfl⟩ := ry
 exact rule i j t t' s _ _ ⟨.int (g i j), H, I.tok _, ⟨_, rfl⟩, q⟩
theorem opB0 {f : Value -> Value -> Sem Value} {g : Int -> Int -> Bool}
  (rule : ∀ (i j : Int) (t u : Tok) (s : Shared) (Q : Value -> Shared -> Prop) (E : Value -> Shared -> Prop), Q (.bool (g i j)) s -> wpAny (model X.prog X.w) X.A (f (.int i t) (.int j u)) Q E s) :
  OpR X f (rI0 fun i j => .bl (g i j)) := by
 intro pins s σ H x y v u Q I rx ry h
 obtain ⟨i, j, rfl, rfl, q⟩ := h
 obtain ⟨t, rfl⟩ := rx
 obtain ⟨t', rfl⟩ := ry
 exact rule i j t t' s _ _ ⟨.bl (g i j), H, I, rfl, q⟩
def CMul (i j : Int) : Prop := (-(2 ^ 64) < i /\ i < 2 ^ 64) \/ (-(2 ^ 64) < j /\ j < 2 ^ 64)
theorem CMul.ok {i j : Int} (h : CMul i j) : IntMulOk i j := by
 rcases h with ⟨h1, h2⟩ | ⟨h1, h2⟩
 ·exact .of_left (intBits_le_64 h1 h2)
 ·exact .of_right (intBits_le_64 h1 h2)
theorem op_add : OpR X (binaryOp .Add) (rI0 fun i j => .int (i + j)) := opI0 fun _ _ _ _ _ _ _ q => add_int q
theorem op_sub : OpR X (binaryOp .Sub) (rI0 fun i j => .int (i - j)) := opI0 fun _ _ _ _ _ _ _ q => sub_int q
theorem op_mul : OpR X (binaryOp .Mult) (rI CMul fun i j => .int (i * j)) := opI fun _ _ _ _ _ _ _ hc q => mul_int q hc.ok
theorem unI {f : Value -> Sem Value} {g : Int -> Int}
  (rule : ∀ (i : Int) (t : Tok) (s : Shared) (Q : Value -> Shared -> Prop) (E : Value -> Shared -> Prop), Q (.int (g i) s.toks) { s with toks := s.toks + 1 } -> wpAny (model X.prog X.w) X.A (f (.int i t)) Q E s) :
  UnR X f (rU fun i => .int (g i)) := by
 intro pins s σ H x v Q I rx h
 obtain ⟨i, rfl, q⟩ := h
 obtain ⟨t, rfl⟩ := rx
 exact rule i t s _ _ ⟨.int (g i), H, I.tok _, ⟨_, rfl⟩, q⟩
theorem un_neg : UnR X (unaryOp .USub) (rU fun i => .int (-i)) := unI fun _ _ _ _ _ q => neg_int q
end
def scal : V -> V -> Bool
 | .non, .non => true | .non, .int _ => true | .int _, .non => true | .non, .bl _ => true | .bl _, .non => true | .non, .str _ => true | .str _, .non => true
 | .int _, .int _ => true | .bl _, .bl _ => true | .str _, .str _ => true | .byt _, .byt _ => true
 | .int _, .str _ => true | .str _, .int _ => true | .bl _, .str _ => true | .str _, .bl _ => true
 | _, _ => false
def rEq : R2 := fun x y H Q => scal x y = true /\ Q (.bl (decide (x = y))) H
def rNe : R2 := fun x y H Q => scal x y = true /\ Q (.bl (!decide (x = y))) H
theorem dec_int {i j : Int} : decide (V.int i = V.int j) = (i == j) := by
 rw [Bool.eq_iff_iff]
 simp
theorem dec_bl {i j : Bool} : decide (V.bl i = V.bl j) = (i == j) := by
 rw [Bool.eq_iff_iff]
 simp
theorem dec_str {i j : Str} : decide (V.str i = V.str j) = (i == j) := by
 rw [Bool.eq_iff_iff]
 simp
theorem dec_byt {i j : Array UInt8} : decide (V.byt i = V.byt j) = (i.toList == j.toList) := by
 rw [Bool.eq_iff_iff]
 cases i
 cases j
 simp
section
variable {X : Cx} {a b c : Expr} {ta tb tc : TE} {pos : Pos}
theorem fin_bl {pins : List (Addr × Obj)} {σ : St} {H : Hp} {s : Shared} {Q : VK} {k k' : Bool} (I : Inv X pins σ H s) (q : Q (.bl k) H) (e : k = k') : EP X pins σ Q (.bool k') s := by
 subst e
 exact ⟨.bl k, H, I, rfl, q⟩
theorem op_eq : OpR X (compareOp .Eq) rEq := by
 intro pins s σ H x y v u Q I rx ry h
 obtain ⟨hs, q⟩ := h
 cases x with
 | non =>
  cases rx
  cases y with
  | non => cases ry; exact PySem.EqNone.eq_none_none (fin_bl I q (by simp))
  | bl j => cases ry; exact PySem.EqNone.eq_none_bool (fin_bl I q (by simp))
  | int j => obtain ⟨t', rfl⟩ := ry; exact PySem.EqNone.eq_none_int (fin_bl I q (by simp))
  | str j => obtain ⟨t', rfl⟩ := ry; exact PySem.EqNone.eq_none_str (fin_bl I q (by simp))
  | _ => exact absurd (show false = true from hs) Bool.false_ne_true
 | bl i =>
  cases rx
  cases y with
  | non => cases ry; exact PySem.EqNone.eq_bool_none (fin_bl I q (by simp))
  | bl j => cases ry; exact eq_bool (fin_bl I q dec_bl)
  | str j => obtain ⟨t', rfl⟩ := ry; exact PySem.EqMixed.eq_bool_str (fin_bl I q (by simp))
  | _ => exact absurd (show false = true from hs) Bool.false_ne_true
 | int i =>
  obtain ⟨t, rfl⟩ := rx
  cases y with
  | non => cases ry; exact PySem.EqNone.eq_int_none (fin_bl I q (by simp))
  | int j => obtain ⟨t', rfl⟩ := ry; exact eq_int (fin_bl I q dec_int)
  | str j => obtain ⟨t', rfl⟩ := ry; exact PySem.EqMixed.eq_int_str (fin_bl I q (by simp))
  | _ => exact absurd (show false = true from hs) Bool.false_ne_true
 | str i =>
  obtain ⟨t, rfl⟩ := rx
  cases y with
  | non => cases ry; exact PySem.EqNone.eq_str_none (fin_bl I q (by simp))
  | bl j => cases ry; exact PySem.EqMixed.eq_str_bool (fin_bl I q (by simp))
  | int j => obtain ⟨t', rfl⟩ := ry; exact PySem.EqMixed.eq_str_int (fin_bl I q (by simp))
  | str j => obtain ⟨t', rfl⟩ := ry; exact eq_str (fin_bl I q dec_str)
  | _ => exact absurd (show false = true from hs) Bool.false_ne_true
 | byt i =>
  obtain ⟨t, rfl⟩ := rx
  cases y with
  | byt j => obtain ⟨t', rfl⟩ := ry; exact PySem.W.eq_bytes (fin_bl I q dec_byt)
  | _ => exact absurd (show false = true from hs) Bool.false_ne_true
 | _ => cases y <;> exact absurd (show false = true from hs) Bool.false_ne_true
theorem op_ne : OpR X (compareOp .NotEq) rNe := by
 intro pins s σ H x y v u Q I rx ry h
 obtain ⟨hs, q⟩ := h
 cases x with
 | non =>
  cases rx
  cases y with
  | non => cases ry; exact PySem.EqNone.ne_none_none (fin_bl I q (by simp))
  | bl j => cases ry; exact PySem.EqNone.ne_none_bool (fin_bl I q (by simp))
  | int j => obtain ⟨t', rfl⟩ := ry; exact PySem.EqNone.ne_none_int (fin_bl I q (by simp))
  | str j => obtain ⟨t', rfl⟩ := ry; exact PySem.EqNone.ne_none_str (fin_bl I q (by simp))
  | _ => exact absurd (show false = true from hs) Bool.false_ne_true
 | bl i =>
  cases rx
  cases y with
  | non => cases ry; exact PySem.EqNone.ne_bool_none (fin_bl I q (by simp))
  | bl j => cases ry; exact ne_bool (fin_bl I q (congrArg not dec_bl))
  | str j => obtain ⟨t', rfl⟩ := ry; exact PySem.EqMixed.ne_bool_str (fin_bl I q (by simp))
  | _ => exact absurd (show false = true from hs) Bool.false_ne_true
 | int i =>
  obtain ⟨t, rfl⟩ := rx
  cases y with
  | non => cases ry; exact PySem.EqNone.ne_int_none (fin_bl I q (by simp))
  | int j => obtain ⟨t', rfl⟩ := ry; exact ne_int (fin_bl I q (congrArg not dec_int))
  | str j => obtain ⟨t', rfl⟩ := ry; exact PySem.EqMixed.ne_int_str (fin_bl I q (by simp))
  | _ => exact absurd (show false = true from hs) Bool.false_ne_true
 | str i =>
  obtain ⟨t, rfl⟩ := rx
  cases y with
  | non => cases ry; exact PySem.EqNone.ne_str_none (fin_bl I q (by simp))
  | bl j => cases ry; exact PySem.EqMixed.ne_str_bool (fin_bl I q (by simp))
  | int j => obtain ⟨t', rfl⟩ := ry; exact PySem.EqMixed.ne_str_int (fin_bl I q (by simp))
  | str j => obtain ⟨t', rfl⟩ := ry; exact ne_str (fin_bl I q (congrArg not dec_str))
  | _ => exact absurd (show false = true from hs) Bool.false_ne_true
 | byt i =>
  obtain ⟨t, rfl⟩ := rx
  cases y with
  | byt j => obtain ⟨t', rfl⟩ := ry; exact PySem.W.ne_bytes (fin_bl I q (congrArg not dec_byt))
  | _ => exact absurd (show false = true from hs) Bool.false_ne_true
 | _ => cases y <;> exact absurd (show false = true from hs) Bool.false_ne_true
theorem op_lt : OpR X (compareOp .Lt) (rI0 fun i j => .bl (decide (i < j))) := opB0 fun _ _ _ _ _ _ _ q => lt_int q
theorem op_le : OpR X (compareOp .LtE) (rI0 fun i j => .bl (decide (i <= j))) := opB0 fun _ _ _ _ _ _ _ q => le_int q
theorem op_gt : OpR X (compareOp .Gt) (rI0 fun i j => .bl (decide (j < i))) := opB0 fun _ _ _ _ _ _ _ q => gt_int q
theorem op_ge : OpR X (compareOp .GtE) (rI0 fun i j => .bl (decide (j <= i))) := opB0 fun _ _ _ _ _ _ _ q => ge_int q
theorem nMk (b : Expr) {op : CmpOp} (h : op ≠ .In := by decide) (h2 : op ≠ .NotIn := by decide) : behindInMarks op b = false := by
 have e1 : (op == CmpOp.In) = false := by cases op <;> first | rfl | exact absurd rfl h
 have e2 : (op == CmpOp.NotIn) = false := by cases op <;> first | rfl | exact absurd rfl h2
 cases b <;> simp [behindInMarks, e1, e2]
theorem pe_cmpR {op : CmpOp} {r : R2} (ho : OpR X (compareOp op) r) (ha : PE X a ta) (hb : PE X b tb) (hm : behindInMarks op b = false) : PE X (.Compare a [op] [b] pos) (tOp r ta tb) := by
 intro pins s σ H Q I h
 exact wpAny_Compare1 (binT ha hb I h fun v u s2 x y H2 I2 rx ry q => ho pins s2 σ H2 x y v u Q I2 rx ry q) hm
def tTest (t : TE) : TT := fun σ H Q => t σ H fun x H' => ∃ k, x = .bl k /\ Q k H'
theorem tCm {op : CmpOp} {r : R2} (ho : OpR X (compareOp op) r) (ha : PE X a ta) (hb : PE X b tb) (hm : behindInMarks op b = false) : PT X (.Compare a [op] [b] pos) (tTest (tOp r ta tb)) := by
 intro pins s σ H Q I h
 refine wpAny_isTrue_Compare1 (thn (ha pins s σ H _ I h) fun v s1 ⟨x, H1, I1, r1, q1⟩ => thn (hb pins s1 σ H1 _ I1 q1) fun u s2 ⟨y, H2, I2, r2, q2⟩ =>
  thn (ho pins s2 σ H2 x y v u _ I2 r1 r2 q2) fun c s3 ⟨z, H3, I3, r3, k, e, q3⟩ => ?_) hm
 subst e
 cases r3
 exact wpAny_truthy_bool ⟨H3, I3, q3⟩
def TruV (K : PySem.W.Frag) (x : V) (H : Hp) (k : Bool) : Prop :=
 match x with
 | .non => k = false
 | .bl b => k = b
 | .int i => k = (i != 0)
 | .str y => y.length <= sizeLine /\ k = ((y.length : Int) != 0)
 | .byt y => y.size <= sizeLine /\ k = ((y.size : Int) != 0)
 | .ref p => (∃ xs, SqL K H p xs /\ k = !xs.isEmpty) \/ (∃ xs, SqT K H p xs /\ k = !xs.isEmpty) \/ ∃ kvs, H p = some (.dK kvs) /\ k = !kvs.isEmpty
 | _ => False
theorem isEmpty_kv {κ : Type} {kvs : List (κ × V)} {vs : List (κ × Value)} (r : KV kvs vs) : (!vs.isEmpty) = !kvs.isEmpty := by
 cases r <;> rfl
theorem isEmpty_of {xs : List V} {its : List Value} (r : Vals xs its) : (!its.toArray.isEmpty) = !xs.isEmpty := by
 cases r <;> simp
theorem line63 : (sizeLine : Nat) < 2 ^ 63 := by rw [sizeLine_eq]; decide
theorem tru_ok : TruR X (fun x H Q => ∃ k, TruV X.K x H k /\ Q k H) := by
 intro pins s σ H x v Q I rx h
 obtain ⟨k, e, q⟩ := h
 have hl := line63
 have hs : sizeLine = 16777216 := sizeLine_eq
 cases x with
 | non =>
  cases rx
  have e' : k = false := e
  subst e'
  exact truthy_none ⟨H, I, q⟩
 | bl b =>
  cases rx
  have e' : k = b := e
  subst e'
  exact wpAny_truthy_bool ⟨H, I, q⟩
 | int i =>
  obtain ⟨t, rfl⟩ := rx
  have e' : k = (i != 0) := e
  subst e'
  exact PySem.P.truthy_int ⟨H, I, q⟩
 | str y =>
  obtain ⟨t, rfl⟩ := rx
  obtain ⟨hy, e'⟩ : y.length <= sizeLine /\ k = ((y.length : Int) != 0) := e
  subst e'
  exact PySem.P.truthy_str (by omega) ⟨H, I.tok _, q⟩
 | byt y =>
  obtain ⟨t, rfl⟩ := rx
  obtain ⟨hy, e'⟩ : y.size <= sizeLine /\ k = ((y.size : Int) != 0) := e
  subst e'
  exact PySem.W.truthy_bytes (by omega) ⟨H, I.tok _, q⟩
 | ref p =>
  cases rx
  have e' : (∃ xs, SqL X.K H p xs /\ k = !xs.isEmpty) \/ (∃ xs, SqT X.K H p xs /\ k = !xs.isEmpty) \/ ∃ kvs, H p = some (.dK kvs) /\ k = !kvs.isEmpty := e
  rcases e' with ⟨xs, hx, e'⟩ | ⟨xs, hx, e'⟩ | ⟨kvs, hx, e'⟩
  ·subst e'
   obtain ⟨its, r, pl, hz⟩ := I.list hx
   have hlen := r.length
   exact wpAny_truthy_list pl.isList (by simp only [List.size_toArray]; omega) ⟨H, I.tok _, by rw [isEmpty_of r]; exact q⟩
  ·subst e'
   obtain ⟨its, r, pl, hz⟩ := I.tuple hx
   have hlen := r.length
   exact truthy_tuple pl (by simp only [List.size_toArray]; omega) ⟨H, I.tok _, by rw [isEmpty_of r]; exact q⟩
  ·subst e'
   obtain ⟨hz, hS, vs, r, m⟩ : kvs.length <= sizeLine /\ (p == sysModules) = false /\ ∃ vs, KV kvs vs /\ s.heap.DictOf (mixKind X.prog X.w) p vs := I.hok p _ hx
   have hlen : kvs.length = vs.length := Paired.length r
   exact wpAny_truthy_dict hS m (by omega) ⟨H, I.tok _, by rw [isEmpty_kv r]; exact q⟩
 | _ => exact (show False from e).elim
theorem pt_truth (ha : PE X a ta) (he : ∀ whole, isTrue a X.env whole = (do let v <- whole; standAt a.pos; holding [v] (truthy v))) :
  PT X a (fun σ H Q => ta σ H fun x H' => ∃ k, TruV X.K x H' k /\ Q k H') := by
 intro pins s σ H Q I h
 exact isTrue_plain (thn (ha pins s σ H _ I h) fun v s1 ⟨x, H1, I1, r1, q1⟩ => tru_ok pins s1 σ H1 x v Q I1 r1 q1) (he _)
theorem vals1 {x : V} {us : List Value} (r : Vals [x] us) : ∃ u, us = [u] /\ RelV x u := by
 cases r with
 | cons r1 r2 => cases r2; exact ⟨_, rfl, r1⟩
end
end L2
namespace L2
open PySem PySem.Spec PyProof.Rows
structure ObjM (h : Heap) (x dx C : Addr) (mA : Str -> Option Value) : Prop where
 obj : h.get? x = some (PySem.W.instObj C dx)
 ns : h.Ns1 dx mA
 ne : dx ≠ x
theorem lookIn_ns {h : Heap} {dx : Addr} {mA : Str -> Option Value} (n : h.Ns1 dx mA) : ∃ od, h.get? dx = some od /\ ∀ name, PySem.W.lookIn name od = some (mA name) := by
 obtain ⟨o, es, ep, ho, hd, hk, _, hm⟩ := n
 refine ⟨o, ho, fun name => ?_⟩
 have e := hm name
 unfold nsFind findBy at e
 rw [<- Array.find?_toList] at e
 unfold PySem.W.lookIn
 rw [hd]
 dsimp only
 split
 ·rename_i y q
  rw [q] at e
  exact congrArg some e
 ·rename_i q
  rw [q] at e
  have a : es.toList.any (·.refKey) = false := by
   rw [List.any_eq_false]
   intro y hy
   obtain ⟨z, t, hkey⟩ := hk y (Array.mem_toList_iff.mp hy)
   simp [DictEntry.refKey, hkey]
  have a' : ¬ es.toList.any (·.refKey) = true := by rw [a]; exact Bool.false_ne_true
  rw [if_neg a']
  exact congrArg some e
theorem ObjM.look {h : Heap} {x dx C : Addr} {mA : Str -> Option Value} (I : ObjM h x dx C mA) : ∃ od, PySem.W.InstAt h x (PySem.W.instObj C dx) C (some od) /\ ∀ name, PySem.W.lookIn name od = some (mA name) :=
 let ⟨od, ho, hl⟩ := lookIn_ns I.ns
 ⟨od, ⟨I.obj, rfl, rfl, ho⟩, hl⟩
section
variable {prog : Program} {w : World} {A : Around} {E : Value -> Shared -> Prop} {s : Shared} {K : PySem.W.Frag} {x dx C f : Addr} {mA : Str -> Option Value} {name : Str} {v : Value}
theorem get_map {expr : Bool} {Q : Value -> Shared -> Prop} (X : K.In s.heap) (I : ObjM s.heap x dx C mA) (hg : PySem.W.plainGet K C name = true) (hh : PySem.W.hasDictIn K C = true)
  (ha : PySem.W.findIn K (.ref C) name = some none) (hv : mA name = some v) (hv' : PySem.W.handedIn v = true) (h : Q v { s with toks := s.toks + 1 }) :
  wpAny (model prog w) A (getAttr (.ref x) name expr) Q E s := by
 obtain ⟨od, J, hl⟩ := I.look
 exact PySem.W.get_value X J (PySem.W.plainGet_of hg).1 (PySem.W.findObj_own hh ha rfl (by rw [hl, hv])) hv' h
theorem set_map {ns : List Str} {Q : Unit -> Shared -> Prop} (X : K.In s.heap) (I : ObjM s.heap x dx C mA)
  (hs : PySem.W.findIn K (.ref C) "__setattr__" = some (some (.builtin "object.__setattr__"))) (hp : PySem.W.plainOver K C = true) (ht : PySem.W.takerIn K C name = some none) (hh : PySem.W.hasDictIn K C = true)
  (hw : PySem.Within mA ns) (hsz : ns.length <= sizeLine)
  (h : ∀ h', ObjM h' x dx C (fun y => if y = name then some v else mA y) -> Heap.SameBut dx s.heap h' -> Q () { s with heap := h', toks := s.toks + 2 }) :
  wpAny (model prog w) A (setAttr (.ref x) name v) Q E s := by
 obtain ⟨od, J, hl⟩ := I.look
 refine PySem.W.set_plain X J hs (PySem.W.osa_open (s := { s with toks := s.toks + 1 }) (r := none) X J hp ht fun b => ?_)
 obtain ⟨cd, hc, hd'⟩ := PySem.W.any_some hh
 have hx : s.heap.get? x = some ⟨.ref C, some dx, .plain, #[]⟩ := I.obj
 refine wpAny_bind (wpAny_pure (wpAny_bind (wpAny_bind (wpAny_loadPart hx (wpAny_bind (PySem.W.Looks.here (s := { s with toks := s.toks + 1 }) (PySem.W.looks_clsIn X hc) ?_))))))
 rw [hd']
 refine wpAny_pure (a := some dx) (wpAny_bind (wpAny_pure (wpAny_bind ?_)))
 refine wpAny_nsSet1 (s := { s with toks := s.toks + 1 }) I.ns fun h' hn2 hs2 => ?_
 obtain ⟨oD, esD, epD, hoD, hdD, hcD⟩ := hn2.count (PySem.Within.cons name v hw)
 refine wpAny_bind (wpAny_lookBehind hoD (by rw [hdD]; exact pastItsLine_dict (Nat.le_trans hcD (by rw [List.length_cons]; omega))) ?_)
 exact wpAny_pure (h _ ⟨(hs2.2 _ (Ne.symm I.ne)).trans I.obj, hn2, I.ne⟩ hs2)
theorem make_map {R : Result -> Shared -> Prop} {vs : List Value} {kw : List (Str × Value)} (X : K.In s.heap) (hm : PySem.W.makesIn K C = true)
  (hi : PySem.W.findIn K (.ref C) "__init__" = some (some (.ref f))) (hf : PySem.W.typeIn K (.ref f) = some (.type "function"))
  (h : codeAny (model prog w) (A.under (.builtin "type.__call__" ⟨.ref C :: vs, kw⟩)) (.call (.ref f) ⟨.ref (s.heap.objs.size + 1) :: vs, kw⟩) (PySem.W.InitBack (s.heap.objs.size + 1) R)
   { s with heap := (s.heap.push PySem.W.emptyDict).push (PySem.W.instObj C s.heap.objs.size) }) :
  codeAny (model prog w) A (.call (.ref C) ⟨vs, kw⟩) R s := by
 obtain ⟨hh, g, d, t, os⟩ := s
 exact PySem.W.make_core (PySem.W.makes_of X hm) (PySem.W.looks_findIn X hi) (fun self => PySem.W.bind_fn X self hf) (.inl rfl) h
end
def putF (f : Str) (v : V) : List (Str × V) -> List (Str × V)
 | [] => [(f, v)]
 | (g, x) :: r => if g = f then (g, v) :: r else (g, x) :: putF f v r
theorem lookup_putF (f g : Str) (v : V) : ∀ fs : List (Str × V), (putF f v fs).lookup g = if g = f then some v else fs.lookup g
 | [] => by
  show List.lookup g [(f, v)] = _
  by_cases h : g = f
  ·have hb : (g == f) = true := beq_iff_eq.mpr h
   simp only [List.lookup, hb, if_pos h]
  ·have hb : (g == f) = false := beq_eq_false_iff_ne.mpr h
   simp only [List.lookup, hb, if_neg h]
 | (k, x) :: r => by
  have ih := lookup_putF f g v r
  rw [show putF f v ((k, x) :: r) = (if k = f then (k, v) :: r else (k, x) :: putF f v r) from rfl]
  by_cases hk : k = f
  ·rw [if_pos hk]
   by_cases h : g = k
   ·have hb : (g == k) = true := beq_iff_eq.mpr h
    simp only [List.lookup, hb, if_pos (h.trans hk)]
   ·have hb : (g == k) = false := beq_eq_false_iff_ne.mpr h
    simp only [List.lookup, hb, if_neg (fun e : g = f => h (e.trans hk.symm))]
  ·rw [if_neg hk]
   by_cases h : g = k
   ·have hb : (g == k) = true := beq_iff_eq.mpr h
    simp only [List.lookup, hb, if_neg (fun e : g = f => hk (h.symm.trans e))]
   ·have hb : (g == k) = false := beq_eq_false_iff_ne.mpr h
    simp only [List.lookup, hb]
    exact ih
theorem keys_putF (f : Str) (v : V) : ∀ fs : List (Str × V), f ∈ (putF f v fs).map (·.1) /\ ∀ g, g ∈ fs.map (·.1) -> g ∈ (putF f v fs).map (·.1)
 | [] => ⟨by simp [putF], fun g h => by simp at h⟩
 | (k, x) :: r => by
  obtain ⟨i1, i2⟩ := keys_putF f v r
  rw [show putF f v ((k, x) :: r) = (if k = f then (k, v) :: r else (k, x) :: putF f v r) from rfl]
  by_cases hk : k = f
  ·rw [if_pos hk]
   subst hk
   exact ⟨by simp, fun g h => by simpa using h⟩
  ·rw [if_neg hk]
   refine ⟨?_, fun g h => ?_⟩
   ·rw [List.map_cons]
    exact List.mem_cons_of_mem _ i1
   ·rw [List.map_cons] at h ⊢
    rcases List.mem_cons.mp h with e | e
    ·exact List.mem_cons.mpr (.inl e)
    ·exact List.mem_cons_of_mem _ (i2 g e)
theorem length_putF (f : Str) (v : V) : ∀ fs : List (Str × V), (putF f v fs).length <= fs.length + 1
 | [] => by simp [putF]
 | (k, x) :: r => by
  have ih := length_putF f v r
  rw [show putF f v ((k, x) :: r) = (if k = f then (k, v) :: r else (k, x) :: putF f v r) from rfl]
  by_cases hk : k = f
  ·rw [if_pos hk, List.length_cons, List.length_cons]; omega
  ·rw [if_neg hk, List.length_cons, List.length_cons]; omega
theorem RelO.some_of {v : V} {o : Option Value} (r : RelO (some v) o) : ∃ u, o = some u /\ RelV v u := by
 cases o with
 | none => exact (show False from r).elim
 | some u => exact ⟨u, rfl, r⟩
theorem handed_of {v : V} {u : Value} (r : RelV v u) : PySem.W.handedIn u = true := by
 cases v with
 | non => cases (show u = Value.none from r); rfl
 | bl b => cases (show u = Value.bool b from r); rfl
 | int i => obtain ⟨t, e⟩ := (show ∃ t, u = Value.int i t from r); cases e; rfl
 | str x => obtain ⟨t, e⟩ := (show ∃ t, u = Value.str x t from r); cases e; rfl
 | byt b => obtain ⟨t, e⟩ := (show ∃ t, u = Value.bytes b t from r); cases e; rfl
 | flt b => obtain ⟨t, e⟩ := (show ∃ t, u = Value.float b t from r); cases e; rfl
 | ref a => cases (show u = Value.ref a from r); rfl
 | ty n => cases (show u = Value.type n from r); rfl
section
variable {P : Program} {w : World} {H H' : Hp} {h h' : Heap} {a C dx : Addr} {fs fs' : List (Str × V)}
theorem ins_get (hok : HOk P w H h) (e : H a = some (.ins C dx fs)) : ∃ mA, ObjM h a dx C mA /\ (∀ f, RelO (fs.lookup f) (mA f)) /\ PySem.Within mA (fs.map (·.1)) /\ fs.length <= 1000 /\ H dx = some (.own a) := by
 obtain ⟨d, z, ne, ob, mA, n, r, q⟩ := (show ObjOk P w H h a (.ins C dx fs) from hok a _ e)
 exact ⟨mA, ⟨ob, n, ne⟩, r, q, z, d⟩
end
structure Cls (K : PySem.W.Frag) (C : Addr) : Prop where
 pg : PySem.W.plainGet K C Str.empty = true
 hd : PySem.W.hasDictIn K C = true
 po : PySem.W.plainOver K C = true
 sa : PySem.W.findIn K (.ref C) "__setattr__" = some (some (.builtin "object.__setattr__"))
theorem Cls.get {K : PySem.W.Frag} {C : Addr} (c : Cls K C) (f : Str) : PySem.W.plainGet K C f = true := c.pg
def NoAttr (K : PySem.W.Frag) (C : Addr) (f : Str) : Prop := PySem.W.findIn K (.ref C) f = some none
theorem NoAttr.taker {K : PySem.W.Frag} {C : Addr} {f : Str} (n : NoAttr K C f) : PySem.W.takerIn K C f = some none := by
 unfold PySem.W.takerIn
 rw [show PySem.W.findIn K (.ref C) f = some none from n]
 rfl
section
variable {X : Cx} {pins : List (Addr × Obj)} {σ : St} {H : Hp} {s : Shared} {a C dx : Addr} {fs : List (Str × V)} {f : Str} {v : V} {A : Around} {E : Value -> Shared -> Prop}
theorem getattr_ok {b : Bool} {Q : Value -> Shared -> Prop} (I : Inv X pins σ H s) (e : H a = some (.ins C dx fs)) (c : Cls X.K C) (n : NoAttr X.K C f) (l : fs.lookup f = some v)
  (h : ∀ u s', Inv X pins σ H s' -> RelV v u -> Q u s') : wpAny (model X.prog X.w) A (getAttr (.ref a) f b) Q E s := by
 obtain ⟨mA, O, r, _, _, _⟩ := ins_get I.hok e
 obtain ⟨u, hu, ru⟩ := RelO.some_of (v := v) (o := mA f) (by rw [<- l]; exact r f)
 exact get_map I.kIn O (c.get f) c.hd n hu (handed_of ru) (h u _ (I.tok _) ru)
theorem setattr_ok {y : V} {u : Value} {Q : Unit -> Shared -> Prop} (I : Inv X pins σ H s) (e : H a = some (.ins C dx fs)) (c : Cls X.K C) (n : NoAttr X.K C f) (hl : fs.length < 1000) (ry : RelV y u)
  (h : ∀ s', Inv X pins σ (upd H a (.ins C dx (putF f y fs))) s' -> Q () s') : wpAny (model X.prog X.w) A (setAttr (.ref a) f u) Q E s := by
 obtain ⟨mA, O, r, wi, _, ho⟩ := ins_get I.hok e
 have hz : (fs.map (·.1)).length <= sizeLine := by rw [List.length_map, sizeLine_eq]; omega
 refine set_map I.kIn O c.sa c.po n.taker c.hd wi hz fun h' O' sb => h _ ?_
 have hd : ∃ o, h'.get? dx = some o := let ⟨o, _, _, e', _⟩ := O'.ns; ⟨o, e'⟩
 refine I.write (x := a) (e := dx) (by rw [e]; exact True.intro) (.inr ho) (fun b q hb z => (sb.2 b hb).trans z) hd ?_
 refine ⟨by rw [uN O.ne]; exact ho, ?_, O.ne, O'.obj, _, O'.ns, fun g => ?_, fun g hg => ?_⟩
 ·have := length_putF f y fs; omega
 ·show RelO ((putF f y fs).lookup g) (if g = f then some u else mA g)
  rw [lookup_putF]
  by_cases q : g = f
  ·rw [if_pos q, if_pos q]; exact ry
  ·rw [if_neg q, if_neg q]; exact r g
 ·by_cases q : g = f
  ·rw [q]; exact (keys_putF f y fs).1
  ·refine (keys_putF f y fs).2 g (wi g fun z => hg ?_)
   show (if g = f then some u else mA g) = none
   rw [if_neg q]; exact z
theorem Inv.made (I : Inv X pins σ H s) : Inv X pins σ (upd (upd H s.heap.objs.size (.own (s.heap.objs.size + 1))) (s.heap.objs.size + 1) (.ins C s.heap.objs.size []))
  { s with heap := (s.heap.push PySem.W.emptyDict).push (PySem.W.instObj C s.heap.objs.size) } := by
 have e1 : (s.heap.push PySem.W.emptyDict).get? s.heap.objs.size = some PySem.W.emptyDict := Heap.get?_push_size s.heap rfl
 have e2 : ((s.heap.push PySem.W.emptyDict).push (PySem.W.instObj C s.heap.objs.size)).get? (s.heap.objs.size + 1) = some (PySem.W.instObj C s.heap.objs.size) := by
  have := Heap.get?_push_size (s.heap.push PySem.W.emptyDict) (o := PySem.W.instObj C s.heap.objs.size) rfl
  rwa [Heap.size_push] at this
 have e3 : (s.heap.push PySem.W.emptyDict).Ns s.heap.objs.size (fun _ => none) := ⟨PySem.W.emptyDict, #[], _, e1, rfl, (fun e he => absurd he (by simp)), fun _ => rfl⟩
 have I1 := I.laid (a := s.heap.objs.size) (o := .own (s.heap.objs.size + 1)) (h' := s.heap.push PySem.W.emptyDict) (t' := s.toks) (fun b u q => Heap.get?_push_of_some _ q) (Nat.le_refl _) ⟨_, e1⟩
 refine I1.laid (a := s.heap.objs.size + 1) (o := .ins C s.heap.objs.size []) (t' := s.toks) (fun b u q => Heap.get?_push_of_some _ q) (Nat.le_of_eq (Heap.size_push _ _)) ?_
 have ne : s.heap.objs.size ≠ s.heap.objs.size + 1 := Nat.ne_of_lt (Nat.lt_succ_self _)
 refine ⟨by rw [uN ne, uS], Nat.zero_le _, ne, e2, fun _ => none, (Heap.Ns1.of_empty e3).at fun o q => Heap.get?_push_of_some _ q, fun _ => True.intro, fun y hy => absurd rfl hy⟩
theorem attr_of {prog : Program} {w : World} {env : Env} {e : Expr} {f : Str} {pos : Pos} {s : Shared} {Q : Value -> Shared -> Prop} (hb : attributeBase e f env (eval e env) = eval e env)
  (h : wpAny (model prog w) A (eval e env) (fun o s₁ => wpAny (model prog w) A (getAttr o f true) Q E s₁) E s) : wpAny (model prog w) A (eval (.Attribute e f pos) env) Q E s :=
 Attribute_any_ h (by rw [arm_eval_Attribute, hb])
end
def sFld (K : PySem.W.Frag) (ta tv : TE) (f : Str) : TS := fun D σ H => tv σ H fun y H1 => ta σ H1 fun x H2 => ∃ a C dx fs, x = .ref a /\ H2 a = some (.ins C dx fs) /\ Cls K C /\ NoAttr K C f /\ fs.length < 1000 /\
 D.nx σ (upd H2 a (.ins C dx (putF f y fs)))
section
variable {X : Cx} {o e value : Expr} {f : Str} {pos pos' tpos : Pos} {ta tv : TE}
theorem ps_fld (ha : PE X o ta) (hv : PE X value tv) (hs : swapsWith value (some (.Attribute o f pos')) pos.line X.env = pure false) : PS X (.Assign [.Attribute o f pos'] value pos) (sFld X.K ta tv f) := by
 intro pins s σ H D I h
 refine plainObj_wpAny_Assign_Attribute (thn (hv pins s σ H _ I h) fun u s1 ⟨y, H1, I1, ry, q⟩ => thn (ha pins s1 σ H1 _ I1 q) fun ov s2 ⟨x, H2, I2, rx, a, C, dx, fs, ex, ea, c, n, l, q2⟩ => ?_) hs
 subst ex
 obtain rfl : ov = Value.ref a := rx
 exact setattr_ok I2 ea c n l ry fun s3 I3 => ⟨σ, _, I3, q2⟩
end
end L2
namespace L2
open PySem PySem.Spec PyProof.Rows
structure Room (k : Nat) (A : Around) : Prop where
 hd : A.handled = none
 dp : A.depth + 3 * k + 5 < recursionLimit
 un : A.units + 16 * k + 200 < cLine
theorem Room.mono {j k : Nat} {A : Around} (r : Room k A) (h : j <= k) : Room j A := ⟨r.hd, by have := r.dp; omega, by have := r.un; omega⟩
theorem Room.deeper {k : Nat} {A : Around} (r : Room (k + 1) A) (env : Env) : Room k (A.deeper env) :=
 ⟨r.hd, by have := r.dp; show A.depth + 1 + 3 * k + 5 < _; omega, by have := r.un; show A.units + 3 + 16 * k + 200 < _; omega⟩
theorem Room.in1 {k : Nat} {A : Around} (r : Room (k + 1) A) : Room k A.in1 :=
 ⟨r.hd, by have := r.dp; show A.depth + 3 * k + 5 < _; omega, by have := r.un; show A.units + 1 + 16 * k + 200 < _; omega⟩
theorem make_depth {A : Around} {C : Addr} {us : List Value} {kw : List (Str × Value)} : (A.under (.builtin "type.__call__" ⟨.ref C :: us, kw⟩)).depth = A.depth + 1 := by
 first | rfl | simp [Around.under, Code.weight, Code.isCreation, Code.isGuard, Code.isCaller, Code.frames, Code.isFrame, guardIds]
theorem make_units {A : Around} {C : Addr} {us : List Value} {kw : List (Str × Value)} : (A.under (.builtin "type.__call__" ⟨.ref C :: us, kw⟩)).units = A.units + 1 := by
 first | rfl | simp [Around.under, Code.cUnits, Code.frames, Code.isFrame]
theorem Room.make {k : Nat} {A : Around} (r : Room (k + 1) A) (C : Addr) (us : List Value) (kw : List (Str × Value)) : Room k (A.under (.builtin "type.__call__" ⟨.ref C :: us, kw⟩)) :=
 ⟨r.hd, by have := r.dp; rw [make_depth]; omega, by have := r.un; rw [make_units]; omega⟩
theorem Room.depth {k : Nat} {A : Around} (r : Room k A) : A.depth < recursionLimit := by have := r.dp; omega
theorem Room.units {k : Nat} {A : Around} (r : Room k A) : A.units + 64 < cLine := by have := r.un; omega
def tNil : TA := fun _ H Q => Q [] H
def tCons (ta : TE) (tr : TA) : TA := fun σ H Q => ta σ H fun x H1 => tr σ H1 fun xs H2 => Q (x :: xs) H2
section
variable {X : Cx} {e : Expr} {es : List Expr} {te : TE} {t : TA} {pos : Pos}
theorem aN : PA X [] tNil := fun _ _ _ _ H Q I h => Calls.spliced_nil ⟨[], H, I, .nil, h⟩
theorem aC (ha : PE X e te) (hr : PA X es t) (hs : starEach (e :: es) X.env = (false, eval e X.env) :: starEach es X.env := by rfl) : PA X (e :: es) (tCons te t) := by
 intro pos pins s σ H Q I h
 rw [hs]
 show wpAny _ _ (spliced ((false, eval e X.env) :: backTo pos (starEach es X.env))) _ _ s
 refine Calls.spliced_cons (thn (ha pins s σ H _ I h) fun u s1 ⟨x, H1, I1, r1, q1⟩ => ?_)
 exact thn (hr pos pins s1 σ H1 _ I1 q1) fun us s2 ⟨xs, H2, I2, r2, q2⟩ => ⟨x :: xs, H2, I2, .cons r1 r2, q2⟩
def tTup (t : TA) : TE := fun σ H Q => t σ H fun xs H1 => xs.length <= sizeLine /\ ∀ p, H1 p = none -> Q (.ref p) (upd H1 p (.tup xs))
def tLst (t : TA) : TE := fun σ H Q => t σ H fun xs H1 => xs.length <= sizeLine /\ ∀ p, H1 p = none -> Q (.ref p) (upd H1 p (.lst xs))
theorem pe_tup {x1} (h : PA X es t) : PE X (.Tuple es x1 pos) (tTup t) := by
 intro pins s σ H Q I hq
 refine wpAny_Tuple_spliced (thn (h pos pins s σ H _ I hq) fun us s1 ⟨xs, H1, I1, r, z, q⟩ => ⟨by rw [<- r.length]; exact z, ?_⟩)
 have hf : H1 s1.heap.objs.size = none := I1.hok.fresh (Nat.le_refl _)
 refine ⟨.ref s1.heap.objs.size, upd H1 s1.heap.objs.size (.tup xs), I1.laid (t' := s1.toks) (fun b u e => Heap.get?_push_of_some _ e) (Nat.le_refl _) ?_, rfl, q _ hf⟩
 exact ⟨z, us, r, ⟨_, Heap.get?_push_size _ rfl, rfl, _, rfl⟩⟩
theorem pe_lst (h : PA X es t) : PE X (.List es pos) (tLst t) := by
 intro pins s σ H Q I hq
 refine wpAny_List_spliced (thn (h pos pins s σ H _ I hq) fun us s1 ⟨xs, H1, I1, r, z, q⟩ => ⟨by rw [<- r.length]; exact z, ?_⟩)
 have hf : H1 s1.heap.objs.size = none := I1.hok.fresh (Nat.le_refl _)
 refine ⟨.ref s1.heap.objs.size, upd H1 s1.heap.objs.size (.lst xs), I1.laid (t' := s1.toks) (fun b u e => Heap.get?_push_of_some _ e) (Nat.le_refl _) ?_, rfl, q _ hf⟩
 exact ⟨z, us, 0, r, Heap.get?_push_size _ rfl⟩
end
abbrev Sp := List V -> Hp -> VK -> XK -> Prop
abbrev CXT := List Env -> Hp -> Shared -> XK -> Value -> Shared -> Prop
structure Env0 (P : Program) (w : World) (K : PySem.W.Frag) (mg : Str -> Option Value) (base : Heap) (A : Around) (outer : List Env) (s : Shared) (H : Hp) : Prop where
 frames : A.frames = some outer
 mod : Mod K mg base
 bs : ∀ b o, base.get? b = some o -> s.heap.get? b = some o /\ H b = none
 bsz : base.objs.size <= s.heap.objs.size
 funs : s.heap.FunFrames base outer
 frf : ∀ b ∈ frs outer, H b = none
 hok : HOk P w H s.heap
 bare : AllBare s.gens
def CE (outer : List Env) (P : Program) (w : World) (H : Hp) (s : Shared) (Q : VK) (u : Value) (s' : Shared) : Prop :=
 ∃ v H', s'.os = s.os /\ AllBare s'.gens /\ Un (frs outer) [] H H' s.heap s'.heap /\ HOk P w H' s'.heap /\ RelV v u /\ Q v H'
def CR (CX : CXT) (outer : List Env) (P : Program) (w : World) (H : Hp) (s : Shared) (Q : VK) (E : XK) (r : Result) (s' : Shared) : Prop :=
 match r with
 | .ok (.ret u) => CE outer P w H s Q u s'
 | .ok _ => False
 | .error e => CX outer H s E e s'
structure FnOk (P : Program) (w : World) (K : PySem.W.Frag) (mg : Str -> Option Value) (base : Heap) (CX : CXT) (k : Nat) (f : Addr) (fd : FuncData) (ps : List Str) (sp : Sp) : Prop where
 len : ∀ vs H Q E, sp vs H Q E -> vs.length = ps.length
 run : ∀ (A : Around) (outer : List Env) (s : Shared) (H : Hp) (args : Args) (us : List Value) (vs : List V) (Q : VK) (E : XK), Room k A -> Env0 P w K mg base A outer s H -> BindsTo s fd args (ps.zip us) -> Vals vs us -> sp vs H Q E ->
  codeAny (model P w) A (.call (.ref f) args) (CR CX outer P w H s Q E) s
theorem Env0.make {P : Program} {w : World} {K : PySem.W.Frag} {mg : Str -> Option Value} {base : Heap} {A : Around} {outer : List Env} {s : Shared} {H : Hp} (e : Env0 P w K mg base A outer s H) (C : Addr) (us : List Value) (kw : List (Str × Value)) :
  Env0 P w K mg base (A.under (.builtin "type.__call__" ⟨.ref C :: us, kw⟩)) outer s H := ⟨by first | exact e.frames | (simpa [Around.under, Code.envs, Code.isFrame, pushEnvs] using e.frames), e.mod, e.bs, e.bsz, e.funs, e.frf, e.hok, e.bare⟩
section
variable {X : Cx} {pins : List (Addr × Obj)} {σ : St} {H : Hp} {s s' : Shared}
theorem Inv.env0 (I : Inv X pins σ H s) : Env0 X.prog X.w X.K X.mg X.base X.A X.stack s H :=
 ⟨I.ok.frames, I.ok.mod, I.bs, Nat.le_trans I.ok.bsz I.sz, I.stack, I.stkFree, I.hok, I.bare⟩
theorem Inv.after {Q : VK} {u : Value} (I : Inv X pins σ H s) (h : CE X.stack X.prog X.w H s Q u s') : EP X pins σ Q u s' := by
 obtain ⟨v, H', os, bare, un, hok, r, q⟩ := h
 obtain ⟨hh, g, d, t, os'⟩ := s'
 obtain rfl : os' = s.os := os
 exact ⟨v, H', I.call (h' := hh) (g' := g) (d' := d) (t' := t) (ch := []) un hok bare (fun b z => absurd z (by simp)), r, q⟩
end
def tCall (sp : Sp) (dvs : List V) (E : XK) (t : TA) : TE := fun σ H Q => t σ H fun vs H1 => sp (vs ++ dvs) H1 Q E
def tMake (C : Addr) (sp : Sp) (dvs : List V) (E : XK) (t : TA) : TE := fun σ H Q => t σ H fun vs H1 => ∀ x dx, H1 x = none -> H1 dx = none -> dx ≠ x ->
 sp (.ref x :: (vs ++ dvs)) (upd (upd H1 dx (.own x)) x (.ins C dx [])) (fun v H2 => v = .non /\ Q (.ref x) H2) E
def Binds (K : PySem.W.Frag) (fd : FuncData) (ps : List Str) (ds : List Value) : Prop :=
 ∀ (s : Shared) (us : List Value), K.In s.heap -> (us ++ ds).length = ps.length -> BindsTo s fd ⟨us, []⟩ (ps.zip (us ++ ds))
theorem Binds.all {K : PySem.W.Frag} {fd : FuncData} {ps : List Str} (h : ∀ us : List Value, us.length = ps.length -> bindArgs fd ⟨us, []⟩ = pure (ps.zip us)) : Binds K fd ps [] := fun s us _ hl => by
 rw [List.append_nil] at hl ⊢
 exact .of_eq (h us hl)
def Passes (CX : CXT) (X : Cx) (E : XK) : Prop := ∀ (pins : List (Addr × Obj)) (σ : St) (H : Hp) (s : Shared) (e : Value) (s' : Shared), Inv X pins σ H s -> CX X.stack H s E e s' -> X.xe e s'
section
variable {X : Cx} {CX : CXT} {k : Nat} {f C : Addr} {fd : FuncData} {ps : List Str} {sp : Sp} {dvs : List V} {ds : List Value} {E : XK} {x m : Str} {p pos apos : Pos} {e o : Expr} {es : List Expr} {ta : TE} {t : TA}
theorem run_fn {pins : List (Addr × Obj)} {σ : St} {H : Hp} {s : Shared} {Q : VK} {us : List Value} {vs : List V} (F : FnOk X.prog X.w X.K X.mg X.base CX k f fd ps sp) (hr : Room k X.A) (hb : Binds X.K fd ps ds) (hd : Vals dvs ds) (hx : Passes CX X E)
  (I : Inv X pins σ H s) (r : Vals vs us) (h : sp (vs ++ dvs) H Q E) : wpAny (model X.prog X.w) X.A (call (.ref f) us) (EP X pins σ Q) X.xe s := by
 have r2 : Vals (vs ++ dvs) (us ++ ds) := r.append hd
 have hl : (us ++ ds).length = ps.length := by rw [<- r2.length]; exact F.len _ _ _ _ h
 refine wpAny_call (codeAny_mono (F.run X.A X.stack s H ⟨us, []⟩ (us ++ ds) (vs ++ dvs) Q E hr I.env0 (hb s us I.kIn hl) r2 h) fun r s' hq => ?_)
 cases r with
 | error e => exact hx pins σ H s e s' I hq
 | ok fl =>
  cases fl with
  | ret u => exact I.after hq
  | next => exact False.elim hq
  | brk => exact False.elim hq
  | cont => exact False.elim hq
theorem pe_call (F : FnOk X.prog X.w X.K X.mg X.base CX k f fd ps sp) (hr : Room k X.A) (hg : Gl X x) (hm : X.mg x = some (.ref f)) (hk : PySem.W.keepIn X.K (.ref f) = true) (hb : Binds X.K fd ps ds) (hd : Vals dvs ds) (hx : Passes CX X E)
  (ha : PA X (e :: es) t) (hdb : (x == ("__debug__" : Str)) = false := by decide) (he : starEach (e :: es) X.env = (false, eval e X.env) :: starEach es X.env := by rfl) (hpl : (backTo pos (starEach es X.env)).any (·.1) = false := by rfl) :
  PE X (.Call (.Name x p) (e :: es) [] pos) (tCall sp dvs E t) := by
 intro pins s σ H Q I h
 refine wpAny_Call_Name_kw (ld_glob I hg hm ?_ hdb)
 refine PySem.W.callWith_K (h₀ := X.base) I.ok.mod.kin hk (thn (ha pos pins s σ H _ I h) fun us s1 ⟨vs, H1, I1, r, q⟩ => ⟨I1.kIn, ?_⟩) he hpl
 exact run_fn F hr hb hd hx I1 r q
structure Mk (K : PySem.W.Frag) (C f : Addr) : Prop where
 makes : PySem.W.makesIn K C = true
 init : PySem.W.findIn K (.ref C) "__init__" = some (some (.ref f))
 fn : PySem.W.isFn K (.ref f) = true
 kp : PySem.W.keepIn K (.ref C) = true
theorem run_make {pins : List (Addr × Obj)} {σ : St} {H : Hp} {s : Shared} {Q : VK} {us : List Value} {vs : List V} (M : Mk X.K C f) (F : FnOk X.prog X.w X.K X.mg X.base CX k f fd ps sp) (hr : Room (k + 1) X.A) (hb : Binds X.K fd ps ds) (hd : Vals dvs ds)
  (hx : Passes CX X E) (I : Inv X pins σ H s) (r : Vals vs us)
  (h : ∀ x dx, H x = none -> H dx = none -> dx ≠ x -> sp (.ref x :: (vs ++ dvs)) (upd (upd H dx (.own x)) x (.ins C dx [])) (fun v H2 => v = .non /\ Q (.ref x) H2) E) :
  wpAny (model X.prog X.w) X.A (call (.ref C) us) (EP X pins σ Q) X.xe s := by
 have hq := h (s.heap.objs.size + 1) s.heap.objs.size (I.hok.fresh (Nat.le_succ _)) (I.hok.fresh (Nat.le_refl _)) (Nat.ne_of_lt (Nat.lt_succ_self _))
 have I2 := Inv.made (C := C) I
 have r2 : Vals (V.ref (s.heap.objs.size + 1) :: (vs ++ dvs)) (Value.ref (s.heap.objs.size + 1) :: (us ++ ds)) := .cons rfl (r.append hd)
 have hl : (Value.ref (s.heap.objs.size + 1) :: us ++ ds).length = ps.length := by
  have e := r2.length
  rw [F.len _ _ _ _ hq] at e
  exact e.symm
 refine wpAny_call (make_map (f := f) I.kIn M.makes M.init (beq_iff_eq.mp M.fn) (codeAny_mono (F.run _ X.stack _ _ ⟨Value.ref (s.heap.objs.size + 1) :: us, []⟩ (Value.ref (s.heap.objs.size + 1) :: (us ++ ds)) _ _ E (hr.make C us [])
  (I2.env0.make C us []) (hb _ (Value.ref (s.heap.objs.size + 1) :: us) I2.kIn hl) r2 hq) fun r s' hq' => ?_))
 cases r with
 | error e => exact hx pins σ _ _ e s' I2 hq'
 | ok fl =>
  cases fl with
  | ret u =>
   obtain ⟨v, H', I3, rv, ev, q3⟩ := I2.after hq'
   subst ev
   exact ⟨rv, ⟨V.ref (s.heap.objs.size + 1), H', I3, rfl, q3⟩⟩
  | next => exact False.elim hq'
  | brk => exact False.elim hq'
  | cont => exact False.elim hq'
theorem pe_make (M : Mk X.K C f) (F : FnOk X.prog X.w X.K X.mg X.base CX k f fd ps sp) (hr : Room (k + 1) X.A) (hg : Gl X x) (hm : X.mg x = some (.ref C)) (hb : Binds X.K fd ps ds) (hd : Vals dvs ds) (hx : Passes CX X E)
  (ha : PA X (e :: es) t) (hdb : (x == ("__debug__" : Str)) = false := by decide) (he : starEach (e :: es) X.env = (false, eval e X.env) :: starEach es X.env := by rfl) (hpl : (backTo pos (starEach es X.env)).any (·.1) = false := by rfl) :
  PE X (.Call (.Name x p) (e :: es) [] pos) (tMake C sp dvs E t) := by
 intro pins s σ H Q I h
 refine wpAny_Call_Name_kw (ld_glob I hg hm ?_ hdb)
 refine PySem.W.callWith_K (h₀ := X.base) I.ok.mod.kin M.kp (thn (ha pos pins s σ H _ I h) fun us s1 ⟨vs, H1, I1, r, q⟩ => ⟨I1.kIn, ?_⟩) he hpl
 exact run_make M F hr hb hd hx I1 r q
theorem pe_make0 (M : Mk X.K C f) (F : FnOk X.prog X.w X.K X.mg X.base CX k f fd ps sp) (hr : Room (k + 1) X.A) (hg : Gl X x) (hm : X.mg x = some (.ref C)) (hb : Binds X.K fd ps ds) (hd : Vals dvs ds) (hx : Passes CX X E)
  (hdb : (x == ("__debug__" : Str)) = false := by decide) : PE X (.Call (.Name x p) [] [] pos) (tMake C sp dvs E tNil) := by
 intro pins s σ H Q I h
 refine wpAny_Call_Name_kw (ld_glob I hg hm ?_ hdb)
 exact PySem.W.callWith_K0 I.kIn M.kp (run_make (us := []) M F hr hb hd hx I .nil h)
end
def PK (X : Cx) (kws : List Keyword) (t : TA) : Prop :=
 ∀ (pos : Pos) (pins : List (Addr × Obj)) (s : Shared) (σ : St) (H : Hp) (Q : List V -> Hp -> Prop), Inv X pins σ H s -> t σ H Q -> wpAny (model X.prog X.w) X.A (evalAll ((backToKw pos (keywordEach kws X.env)).map (·.2))) (AP X pins σ Q) X.xe s
section
variable {X : Cx} {CX : CXT} {k : Nat} {f C : Addr} {fd : FuncData} {ps ks : List Str} {sp : Sp} {E : XK} {x m : Str} {p pos apos kpos : Pos} {e o : Expr} {es : List Expr} {kws : List Keyword} {te ta : TE} {t tk : TA} {nm : Option Str}
theorem pk_nil : PK X [] tNil := fun _ _ _ _ H Q I h => wpAny_evalAll_nil ⟨[], H, I, .nil, h⟩
theorem pk_cons (ha : PE X e te) (hr : PK X kws t) : PK X (⟨nm, e, kpos⟩ :: kws) (tCons te t) := by
 intro pos pins s σ H Q I h
 show wpAny _ _ (evalAll ((do let v <- eval e X.env; standAt pos; pure v) :: (backToKw pos (keywordEach kws X.env)).map (·.2))) _ _ s
 refine wpAny_evalAll_cons (wpAny_bind (thn (ha pins s σ H _ I h) fun u s1 ⟨x, H1, I1, r1, q1⟩ => wpAny_bind (wpAny_standAt (wpAny_pure ?_))))
 exact thn (hr pos pins s1 σ H1 _ I1 q1) fun us s2 ⟨xs, H2, I2, r2, q2⟩ => ⟨x :: xs, H2, I2, .cons r1 r2, q2⟩
variable {g : List Value -> List Value -> List Value} {gV : List V -> List V -> List V}
end
structure FSc (N P : List Str) (sc : Scope) : Prop where
 kind : sc.kind = .function
 co : sc.isCoroutine = false
 gen : sc.isGenerator = false
 nd : N.Nodup
 pre : N.take P.length = P
 par : ∀ x ∈ P, sc.names.lookup x = some .local \/ sc.names.lookup x = some .cell
 nofree : ∀ y ∈ sc.names, y.2 ≠ .free
theorem bindL_out {kindOf : Str -> Option NameKind} {x : Str} : ∀ {binds : List (Str × Value)} {m : Str -> Option Value}, (∀ v, (x, v) ∉ binds) -> bindL kindOf binds m x = m x
 | [], _, _ => rfl
 | (n, v) :: r, m, h => by
  unfold bindL
  rw [bindL_out fun w hw => h w (List.mem_cons_of_mem _ hw)]
  split
  ·have : x ≠ n := by rintro rfl; exact h v List.mem_cons_self
   simp [this]
  ·rfl
theorem bindC_out {kindOf : Str -> Option NameKind} {x : Str} : ∀ {binds : List (Str × Value)} {m : Str -> Option Value}, (∀ v, (x, v) ∉ binds) -> bindC kindOf binds m x = m x
 | [], _, _ => rfl
 | (n, v) :: r, m, h => by
  unfold bindC
  rw [bindC_out fun w hw => h w (List.mem_cons_of_mem _ hw)]
  split
  ·rfl
  ·have : x ≠ n := by rintro rfl; exact h v List.mem_cons_self
   simp [this]
theorem bindL_get {kindOf : Str -> Option NameKind} {x : Str} {v : Value} : ∀ {P : List Str} {vs : List Value} {i : Nat} {m : Str -> Option Value}, P.Nodup -> P[i]? = some x -> vs[i]? = some v -> kindOf x = some .local ->
  bindL kindOf (P.zip vs) m x = some v
 | [], _, _, _, _, h, _, _ => by simp at h
 | _ :: _, [], _, _, _, _, h, _ => by simp at h
 | p :: P, w :: vs, 0, m, nd, h1, h2, hk => by
  simp at h1 h2; subst h1; subst h2
  show bindL kindOf ((p, w) :: P.zip vs) m p = _
  unfold bindL
  rw [bindL_out fun v hv => (List.nodup_cons.mp nd).1 (List.of_mem_zip hv).1, if_pos hk]
  simp
 | p :: P, w :: vs, i + 1, m, nd, h1, h2, hk => by
  show bindL kindOf ((p, w) :: P.zip vs) m x = _
  unfold bindL
  exact bindL_get (i := i) (List.nodup_cons.mp nd).2 (by simpa using h1) (by simpa using h2) hk
theorem bindC_get {kindOf : Str -> Option NameKind} {x : Str} {v : Value} : ∀ {P : List Str} {vs : List Value} {i : Nat} {m : Str -> Option Value}, P.Nodup -> P[i]? = some x -> vs[i]? = some v -> kindOf x ≠ some .local ->
  bindC kindOf (P.zip vs) m x = some v
 | [], _, _, _, _, h, _, _ => by simp at h
 | _ :: _, [], _, _, _, _, h, _ => by simp at h
 | p :: P, w :: vs, 0, m, nd, h1, h2, hk => by
  simp at h1 h2; subst h1; subst h2
  show bindC kindOf ((p, w) :: P.zip vs) m p = _
  unfold bindC
  rw [bindC_out fun v hv => (List.nodup_cons.mp nd).1 (List.of_mem_zip hv).1, if_neg hk]
  simp
 | p :: P, w :: vs, i + 1, m, nd, h1, h2, hk => by
  show bindC kindOf ((p, w) :: P.zip vs) m x = _
  unfold bindC
  exact bindC_get (i := i) (List.nodup_cons.mp nd).2 (by simpa using h1) (by simpa using h2) hk
def start (N : List Str) (vs : List V) : St := vs.map some ++ List.replicate (N.length - vs.length) none
def cxOf (CX : CXT) (P : Program) (w : World) (K : PySem.W.Frag) (mg : Str -> Option Value) (base : Heap) (N : List Str) (qual : Str) (scope : Scope) (f : Addr) (cd : Value) (A : Around) (outer : List Env) (s : Shared) (H : Hp) (E : XK) : Cx where
 prog := P
 w := w
 K := K
 mg := mg
 base := base
 A := A.deeper (envOfC qual scope s.heap.objs.size f cd)
 N := N
 s_0 := s
 H_0 := H
 env := envOfC qual scope s.heap.objs.size f cd
 outer := outer
 stack := envOfC qual scope s.heap.objs.size f cd :: outer
 ex := []
 calm := true
 fn := fun _ => true
 pn := []
 xe := fun e s' => wpAny (model P w) (A.deeper (envOfC qual scope s.heap.objs.size f cd)) (leaving (envOfC qual scope s.heap.objs.size f cd) e) (fun _ s'' => CX outer H s E e s'') (fun e' s'' => CX outer H s E e' s'') s'
theorem cell_has {sc : Scope} {n : Nat} {x : Str} (h : sc.names.lookup x = some .cell) : ∃ c, (cellsFrom n sc.names []).lookup x = some c := by
 have q := PySem.W.cellsFrom_some sc.names n [] (.inl h)
 exact Option.isSome_iff_exists.mp q
theorem inv_start {CX : CXT} {P : Program} {w : World} {K : PySem.W.Frag} {mg : Str -> Option Value} {base : Heap} {N ps : List Str} {qual : Str} {scope : Scope} {f : Addr} {cd : Value} {A : Around} {outer : List Env} {s s1 : Shared} {H : Hp} {E : XK} {us : List Value} {vs : List V}
  (S : FSc N ps scope) (hd : A.handled = none) (e0 : Env0 P w K mg base A outer s H) (hl : vs.length = ps.length) (r : Vals vs us)
  (x : InCallC s s.heap.objs.size (bindL (envOfC qual scope s.heap.objs.size f cd).kindOf (ps.zip us) fun _ => none) (cellsFrom (s.heap.objs.size + 1) scope.names []) (bindC (envOfC qual scope s.heap.objs.size f cd).kindOf (ps.zip us) fun _ => none) s1) :
  Inv (cxOf CX P w K mg base N qual scope f cd A outer s H E) [] (start N vs) H s1 := by
 have hpl : ps.length <= N.length := by have := congrArg List.length S.pre; rw [List.length_take] at this; omega
 obtain ⟨h1, tk, rfl, hk⟩ := x.done
 have noA : ∀ b : Addr, b ∉ (cxOf CX P w K mg base N qual scope f cd A outer s H E).ex := fun b z => absurd (show b ∈ ([] : List Addr) from z) (by simp)
 refine ⟨⟨e0.mod, S.kind, rfl, rfl, Nat.le_refl _, fun y z c h1 h2 => ?_, fun y hy => ?_, fun y c _ h => ?_, fun _ => hd, Around.frames_deeper e0.frames, .inr ⟨rfl, rfl⟩, fun b z => absurd z (noA b), e0.bs, e0.bsz, fun b _ _ => noA b, fun b z => absurd z (noA b), e0.funs, e0.frf⟩,
  rfl, e0.bare, Un.kept hk, ⟨_, x.toInCall.ns, fun i y v h1 h2 h3 => ?_⟩, fun y c h => ⟨_, x.cell y c h⟩, e0.hok.fresh (Nat.le_refl _), fun y c h => ?_, fun p hp => absurd (show p ∈ ([] : List (Addr × Obj)) from hp) (by simp), e0.hok.kept hk, ?_⟩
 ·exact name_of_addr x.apart (PySem.mem_of_lookup h1) (PySem.mem_of_lookup h2)
 ·have hy : scope.names.lookup y = some .cell \/ scope.names.lookup y = some .free := hy
  rcases hy with hy | hy
  ·exact cell_has hy
  ·exact absurd rfl (S.nofree _ (PySem.mem_of_lookup hy))
 ·exact Nat.le_of_lt (x.above y c (PySem.mem_of_lookup h))
 ·have hi : i < vs.length := by
   unfold start at h2
   by_cases hi : i < vs.length
   ·exact hi
   ·rw [List.getElem?_append_right (by simpa using hi)] at h2
    rw [List.getElem?_replicate] at h2
    split at h2 <;> cases h2
  have ha : vs[i]? = some v := by
   unfold start at h2
   rw [List.getElem?_append_left (by simpa using hi), List.getElem?_map] at h2
   cases e : vs[i]? with
   | none => rw [e] at h2; cases h2
   | some a => rw [e] at h2; cases h2; rfl
  obtain ⟨u, hu, rv⟩ := r.get ha
  have hp : ps[i]? = some y := by
   rw [<- S.pre, List.getElem?_take_of_lt (by omega)]; exact h1
  have ndP : ps.Nodup := by rw [<- S.pre]; exact S.nd.sublist (List.take_sublist _ _)
  refine ⟨u, rv, ?_⟩
  rcases S.par y (List.mem_of_getElem? hp) with k | k
  ·exact .inl ⟨k, bindL_get ndP hp hu k⟩
  ·obtain ⟨c, e⟩ := cell_has (n := s.heap.objs.size + 1) k
   refine .inr ⟨.inl k, c, e, ?_⟩
   have q := x.cell y c e
   rw [bindC_get ndP hp hu (by show scope.names.lookup y ≠ _; rw [k]; decide)] at q
   exact q
 ·exact e0.hok.fresh (Nat.le_of_lt (x.above y c (PySem.mem_of_lookup h)))
 ·unfold start
  show _ = N.length
  rw [List.length_append, List.length_map, List.length_replicate]
  omega
theorem fn_of {CX : CXT} {P : Program} {w : World} {K : PySem.W.Frag} {mg : Str -> Option Value} {base : Heap} {k : Nat} {f : Addr} {name qual : Str} {params : Arguments} {body : List Stmt} {scope : Scope} {dV kV doc pm cdv ct oc : Value} {an od : Option Addr}
  {osl : Array (Option Value)} {N ps : List Str} {sp : Sp} (lk : K.lookup f = some ⟨oc, od, .func (PySem.W.fnOf name qual params body scope dV kV doc pm an cdv ct), osl⟩) (hcd : PySem.W.codeIn K cdv qual = true) (S : FSc N ps scope)
  (len : ∀ vs H Q E, sp vs H Q E -> vs.length = ps.length)
  (hbody : ∀ (A : Around) (outer : List Env) (s : Shared) (H : Hp) (vs : List V) (Q : VK) (E : XK), Room k (A.deeper (envOfC qual scope s.heap.objs.size f cdv)) -> sp vs H Q E ->
   ∃ t, PSs (cxOf CX P w K mg base N qual scope f cdv A outer s H E) body t /\ t { nx := fun _ H' => Q .non H', rt := Q } (start N vs) H) :
  FnOk P w K mg base CX (k + 1) f (PySem.W.fnOf name qual params body scope dV kV doc pm an cdv ct) ps sp := by
 refine ⟨len, fun A outer s H args us vs Q E hr e0 hb r hsp => ?_⟩
 have hl := len _ _ _ _ hsp
 have KX : K.In s.heap := e0.mod.kin.keeps fun b o e => (e0.bs b o e).1
 have lim : s.heap.NoLimit := e0.mod.nolimit.keeps fun b o e => (e0.bs b o e).1
 have hkind : ∀ y ∈ ps.zip us, scope.names.lookup y.1 = some .local \/ (scope.names.lookup y.1 = some .cell /\ ((cellsFrom (s.heap.objs.size + 1) scope.names []).lookup y.1).isSome = true) := fun ⟨n, v⟩ hy => by
  rcases S.par n (List.of_mem_zip hy).1 with q | q
  ·exact .inl q
  ·exact .inr ⟨q, PySem.W.cellsFrom_some _ _ _ (.inl q)⟩
 refine codeAny_call_function hr.depth (KX _ _ lk) rfl S.co S.gen rfl (PySem.W.codeRec_of KX hcd) (hb _ _ _ _ ?_)
 refine wpAny_newFunctionEnv_cells S.kind hkind fun env he s1 x => ?_
 subst he
 refine ⟨lim.keeps x.toInCall.keep, codeAny_func ?_⟩
 obtain ⟨t, ht, hq⟩ := hbody A outer s H vs Q E (hr.deeper _) hsp
 have I : Inv (cxOf CX P w K mg base N qual scope f cdv A outer s H E) [] (start N vs) H s1 := inv_start S hr.hd e0 hl r x
 refine wpAny_mono (ht [] s1 (start N vs) H _ I hq) (fun fl s' hs => ?_) fun e s' hs => hs
 have fin : ∀ {σ' : St} {H' : Hp} {v : V} {u : Value}, Inv (cxOf CX P w K mg base N qual scope f cdv A outer s H E) [] σ' H' s' -> RelV v u -> Q v H' -> CE outer P w H s Q u s' :=
  fun {σ' H' v u} J rv q => ⟨v, H', J.os, J.bare, J.base, J.hok, rv, q⟩
 cases fl with
 | ret u =>
  obtain ⟨v, σ', H', J, rv, q⟩ := hs
  exact fin J rv q
 | next =>
  obtain ⟨σ', H', J, q⟩ := hs
  exact fin (v := V.non) (u := Value.none) J rfl q
 | brk =>
  obtain ⟨_, _, _, q⟩ := hs
  exact False.elim q
 | cont =>
  obtain ⟨_, _, _, q⟩ := hs
  exact False.elim q
end L2
namespace L2
open PySem PySem.Spec PyProof.Rows
section
variable {X : Cx} {x : Str} {p pos : Pos} {e : Expr} {es : List Expr} {t : TA} {id T : String} {r : List V -> Hp -> VK -> Prop}
def tCB (r : List V -> Hp -> VK -> Prop) (t : TA) : TE := fun σ H Q => t σ H fun vs H1 => r vs H1 Q
theorem pe_callB (hc : CallR X (.builtin id) r) (hg : Gl X x) (hm : X.mg x = none) (hv : bootBuiltins x = some (.builtin id)) (ha : PA X (e :: es) t) (hn : x ≠ "__name__" := by decide) (hdb : (x == ("__debug__" : Str)) = false := by decide)
  (he : starEach (e :: es) X.env = (false, eval e X.env) :: starEach es X.env := by rfl) (hpl : (backTo pos (starEach es X.env)).any (·.1) = false := by rfl) : PE X (.Call (.Name x p) (e :: es) [] pos) (tCB r t) := by
 intro pins s σ H Q I h
 refine wpAny_Call_Name_kw (ld_blt I hg hm hv ?_ hn hdb)
 exact PyProof.Rows.callWith_builtin1 (thn (ha pos pins s σ H _ I h) fun us s1 ⟨vs, H1, I1, r1, q1⟩ => hc pins s1 σ H1 vs us Q I1 r1 q1) he hpl
theorem pe_callTy (hc : CallR X (.type T) r) (hg : Gl X x) (hm : X.mg x = none) (hv : bootBuiltins x = some (.type T)) (ha : PA X (e :: es) t) (hn : x ≠ "__name__" := by decide) (hdb : (x == ("__debug__" : Str)) = false := by decide)
  (he : starEach (e :: es) X.env = (false, eval e X.env) :: starEach es X.env := by rfl) (hpl : (backTo pos (starEach es X.env)).any (·.1) = false := by rfl) : PE X (.Call (.Name x p) (e :: es) [] pos) (tCB r t) := by
 intro pins s σ H Q I h
 refine wpAny_Call_Name_kw (ld_blt I hg hm hv ?_ hn hdb)
 exact PyProof.Rows.callWith_type1 (thn (ha pos pins s σ H _ I h) fun us s1 ⟨vs, H1, I1, r1, q1⟩ => hc pins s1 σ H1 vs us Q I1 r1 q1) he hpl
end
end L2
namespace HT
open PySem PyProof.Rows
section
open PySem.SeqAt
open PySem.AutoSeq1 (wpAny_loadPart')
open PySem.MeetsSeq PySem.MeetsSeq2 PySem.MeetsSeq3
end
section
variable {prog : Program} {w : World} {A : Around} {E : Value -> Shared -> Prop} {s : Shared}
def sIx (n d : Nat) : Option Int -> Nat
 | none => d
 | some v => if v < 0 then (v + (n : Int)).toNat else min v.toNat n
theorem sIx_nat (n d k : Nat) : sIx n d (some (k : Int)) = min k n := by
 show (if (k : Int) < 0 then ((k : Int) + (n : Int)).toNat else min (k : Int).toNat n) = min k n
 rw [if_neg (by omega), Int.toNat_natCast]
end
end HT
namespace L2
open PySem PySem.Spec PyProof.Rows
abbrev TO := St -> Hp -> (Option Int -> Hp -> Prop) -> Prop
def PO (X : Cx) (e : Option Expr) (t : TO) : Prop :=
 ∀ (pins : List (Addr × Obj)) (s : Shared) (σ : St) (H : Hp) (Q : Option Int -> Hp -> Prop), Inv X pins σ H s -> t σ H Q ->
  wpAny (model X.prog X.w) X.A (evalPart e X.env) (fun u s' => ∃ o H', Inv X pins σ H' s' /\ IsPart u o /\ Q o H') X.xe s
def tPart (t : TE) : TO := fun σ H Q => t σ H fun x H1 => ∃ i, x = .int i /\ Q (some i) H1
section
variable {X : Cx} {e : Expr} {te : TE} {lo hi : Option Expr} {tl th : TO} {pos p2 : Pos}
theorem po_some (h : PE X e te) : PO X (some e) (tPart te) := by
 intro pins s σ H Q I hw
 rw [evalPart_some]
 refine thn (h pins s σ H _ I hw) fun u s1 ⟨x, H1, I1, r1, q1⟩ => ?_
 obtain ⟨i, rfl, q⟩ := q1
 obtain ⟨t, rfl⟩ := r1
 exact ⟨some i, H1, I1, .int i t, q⟩
def SlR (X : Cx) (r : V -> Option Int -> Option Int -> Hp -> VK -> Prop) : Prop :=
 ∀ (pins : List (Addr × Obj)) (s : Shared) (σ : St) (H : Hp) (x : V) (v vl vu : Value) (lo hi : Option Int) (sl : Addr) (Q : VK), Inv X pins σ H s -> RelV x v -> s.heap.IsSliceOf sl vl vu .none -> IsPart vl lo -> IsPart vu hi -> r x lo hi H Q ->
  ∃ T id, typeLookup (.type T) "__getitem__" = pure (some (.builtin id)) /\ s.TypeIs v T /\ wpAny (model X.prog X.w) X.A (getItem v (.ref sl)) (EP X pins σ Q) X.xe s
def tSl (r : V -> Option Int -> Option Int -> Hp -> VK -> Prop) (te : TE) (tl th : TO) : TE := fun σ H Q => te σ H fun x H1 => tl σ H1 fun l H2 => th σ H2 fun u H3 => r x l u H3 Q
theorem pe_slice {r : V -> Option Int -> Option Int -> Hp -> VK -> Prop} (hr : SlR X r) (he : PE X e te) (hl : PO X lo tl) (hu : PO X hi th) : PE X (.Subscript e (.Slice lo hi none p2) pos) (tSl r te tl th) := by
 intro pins s σ H Q I h
 refine Subscript_ (thn (he pins s σ H _ I h) fun v s1 ⟨x, H1, I1, r1, q1⟩ => ?_)
 refine wpAny_Slice (thn (hl pins s1 σ H1 _ I1 q1) fun vl s2 ⟨l, H2, I2, pl, q2⟩ => thn (hu pins s2 σ H2 _ I2 q2) fun vu s3 ⟨u, H3, I3, pu, q3⟩ => ?_)
 rw [evalPart_none]
 refine wpAny_pure ?_
 have I4 : Inv X pins σ H3 { s3 with heap := s3.heap.push { cls := .type "slice", data := .fields #[vl, vu, .none] } } := I3.kept (t' := s3.toks) fun b ob q => Heap.get?_push_of_some _ q
 obtain ⟨T, id, hT, ht, hg⟩ := hr pins { s3 with heap := s3.heap.push { cls := .type "slice", data := .fields #[vl, vu, .none] } } σ H3 x v vl vu l u s3.heap.objs.size Q I4 r1 (Heap.IsSliceOf.new ..) pl pu q3
 show wpAny (model X.prog X.w) X.A (subscriptTail e (.Slice lo hi none p2) v (.ref s3.heap.objs.size)) (EP X pins σ Q) X.xe { s3 with heap := s3.heap.push { cls := .type "slice", data := .fields #[vl, vu, .none] } }
 exact tail_any (ops := [.ref s3.heap.objs.size, v]) ht hT hg (by with_unfolding_all rfl)
def cutV (xs : List V) (lo hi : Option Int) : List V := (xs.drop (HT.sIx xs.length 0 lo)).take (HT.sIx xs.length xs.length hi - HT.sIx xs.length 0 lo)
theorem cutV_length (xs : List V) (lo hi : Option Int) : (cutV xs lo hi).length <= xs.length := by
 unfold cutV
 rw [List.length_take, List.length_drop]
 omega
end
end L2
namespace L2
open PySem PySem.Spec PyProof.Rows
def ixN (n : Nat) (i : Int) : Option Nat := if 0 <= i then (if i < n then some i.toNat else none) else if -(n : Int) <= i then some (i + n).toNat else none
def atI {α : Type} (xs : List α) (i : Int) : Option α := (ixN xs.length i).bind fun j => xs[j]?
theorem ixN_seq {n : Nat} {i : Int} {j : Nat} (h : ixN n i = some j) : seqIndex? i n = some j /\ j < n /\ -(n : Int) <= i /\ i < n := by
 unfold ixN at h
 by_cases h0 : 0 <= i
 ·rw [if_pos h0] at h
  by_cases h1 : i < n
  ·rw [if_pos h1] at h
   have e : i.toNat = j := Option.some.inj h
   exact ⟨by rw [seqIndex_of h0 h1, e], by omega, by omega, h1⟩
  ·rw [if_neg h1] at h; cases h
 ·rw [if_neg h0] at h
  by_cases h1 : -(n : Int) <= i
  ·rw [if_pos h1] at h
   have e : (i + n).toNat = j := Option.some.inj h
   exact ⟨by rw [seqIndex_neg (by omega) h1, e], by omega, h1, by omega⟩
  ·rw [if_neg h1] at h; cases h
theorem atI_get {α : Type} {xs : List α} {i : Int} {v : α} (h : atI xs i = some v) : ∃ j, seqIndex? i xs.length = some j /\ xs[j]? = some v /\ j < xs.length /\ -(xs.length : Int) <= i /\ i < xs.length := by
 unfold atI at h
 cases e : ixN xs.length i with
 | none => rw [e] at h; cases h
 | some j =>
  rw [e] at h
  obtain ⟨h1, h2, h3, h4⟩ := ixN_seq e
  exact ⟨j, h1, h, h2, h3, h4⟩
theorem atI_nat {α : Type} {xs : List α} {j : Nat} {v : α} (h : xs[j]? = some v) : atI xs (j : Int) = some v := by
 have hj : j < xs.length := (List.getElem?_eq_some_iff.mp h).1
 have e : ixN xs.length (j : Int) = some j := by
  unfold ixN
  rw [if_pos (by omega), if_pos (by omega)]; simp
 unfold atI; rw [e]; exact h
def PlainIx (b : Expr) : Prop := ∀ o i, subscripted b false o i = operate [o, i] (getItem o i)
def IxR (X : Cx) (r : R2) : Prop :=
 ∀ (value slice : Expr) (pins : List (Addr × Obj)) (s : Shared) (σ : St) (H : Hp) (x y : V) (v u : Value) (Q : VK), Inv X pins σ H s -> RelV x v -> RelV y u -> r x y H Q ->
  subscripted slice false v u = operate [v, u] (getItem v u) -> wpAny (model X.prog X.w) X.A (subscriptTail value slice v u) (EP X pins σ Q) X.xe s
def MtR (X : Cx) (id : String) (r : V -> List V -> Hp -> VK -> Prop) : Prop :=
 ∀ (pins : List (Addr × Obj)) (s : Shared) (σ : St) (H : Hp) (x : V) (xs : List V) (v : Value) (us : List Value) (Q : VK), Inv X pins σ H s -> RelV x v -> Vals xs us -> r x xs H Q ->
  wpAny (model X.prog X.w) X.A (call (.builtin id) (v :: us)) (EP X pins σ Q) X.xe s
section
variable {X : Cx} {a b : Expr} {ta tb : TE} {pos : Pos}
theorem pe_ix {r : R2} (hr : IxR X r) (ha : PE X a ta) (hb : PE X b tb) (hs : PlainIx b) : PE X (.Subscript a b pos) (tOp r ta tb) := by
 intro pins s σ H Q I h
 exact Subscript_ (binT ha hb I h fun v u s2 x y H2 I2 rx ry q => hr a b pins s2 σ H2 x y v u Q I2 rx ry q (hs _ _))
def rIxL (K : PySem.W.Frag) : R2 := fun x y H Q => ∃ p xs i v, x = .ref p /\ y = .int i /\ SqL K H p xs /\ atI xs i = some v /\ Q v H
def rIxT (K : PySem.W.Frag) : R2 := fun x y H Q => ∃ p xs i v, x = .ref p /\ y = .int i /\ SqT K H p xs /\ atI xs i = some v /\ Q v H
theorem iXl : IxR X (rIxL X.K) := by
 intro value slice pins s σ H x y v u Q I rx ry h hs
 obtain ⟨p, xs, i, z, rfl, rfl, hq, he, q⟩ := h
 cases rx
 obtain ⟨t, rfl⟩ := ry
 obtain ⟨its, r, pl, hz⟩ := I.list hq
 obtain ⟨j, h1, h2, h3, h4, h5⟩ := atI_get he
 obtain ⟨w, ew, rw'⟩ := r.get h2
 have hl := r.length
 have hn := line63
 have fin : EP X pins σ Q w s := ⟨z, H, I, rw', q⟩
 by_cases h0 : 0 <= i
 ·have hj : i.toNat = j := by
   rw [seqIndex_of h0 h5] at h1
   exact Option.some.inj h1
  exact item_listR pl.isList h0 (by omega) (by rw [hj]; simpa using ew) fin hs
 ·have hj : (i + (its.toArray.size : Int)).toNat = j := by
   rw [seqIndex_neg (by omega) h4] at h1
   rw [List.size_toArray, <- hl]
   exact Option.some.inj h1
  exact subscriptTail_builtinR (x := w) pl.isList.typeIs slot_list_getitem.lookup
   (wpAny_getItem_list_neg (Q := fun r s' => r = w /\ EP X pins σ Q r s') pl.isList (by omega) (by rw [List.size_toArray] <;> omega) (by omega) (by rw [hj]; simpa using ew) ⟨rfl, fin⟩) hs
theorem ix_tup : IxR X (rIxT X.K) := by
 intro value slice pins s σ H x y v u Q I rx ry h hs
 obtain ⟨p, xs, i, z, rfl, rfl, hq, he, q⟩ := h
 cases rx
 obtain ⟨t, rfl⟩ := ry
 obtain ⟨its, r, pl, hz⟩ := I.tuple hq
 obtain ⟨j, h1, h2, h3, h4, h5⟩ := atI_get he
 obtain ⟨w, ew, rw'⟩ := r.get h2
 have hl := r.length
 have hn := line63
 have fin : EP X pins σ Q w s := ⟨z, H, I, rw', q⟩
 exact subscriptTail_builtinR (x := w) pl.typeIs slot_tuple_getitem.lookup
  (getItem_tuple (j := j) (Q := fun r s' => r = w /\ EP X pins σ Q r s') pl (by omega) (by omega) (by rw [List.size_toArray, <- hl]; exact h1) (by simpa using ew) ⟨rfl, fin⟩) hs
theorem slice_bounds (lo hi : Option Int) (n : Nat) : (sliceBounds lo hi none n).1 = ((HT.sIx n 0 lo : Nat) : Int) /\ (sliceBounds lo hi none n).2.1 = ((HT.sIx n n hi : Nat) : Int) /\ (sliceBounds lo hi none n).2.2 = 1 := by
 refine ⟨?_, ?_, rfl⟩
 ·cases lo with
  | none => simp [sliceBounds, HT.sIx]
  | some i =>
   simp only [sliceBounds, HT.sIx, Option.getD_none, show (1 : Int) > 0 by decide, if_true]
   by_cases h : i < 0
   ·simp only [h, if_true] <;> omega
   ·simp only [h, if_false] <;> omega
 ·cases hi with
  | none => simp [sliceBounds, HT.sIx]
  | some i =>
   simp only [sliceBounds, HT.sIx, Option.getD_none, show (1 : Int) > 0 by decide, if_true]
   by_cases h : i < 0
   ·simp only [h, if_true] <;> omega
   ·simp only [h, if_false] <;> omega
theorem slicePick_cut (its : List Value) (lo hi : Option Int) : slicePick its.toArray lo hi none = ((its.drop (HT.sIx its.length 0 lo)).take (HT.sIx its.length its.length hi - HT.sIx its.length 0 lo)).toArray := by
 obtain ⟨h1, h2, h3⟩ := slice_bounds lo hi its.toArray.size
 unfold slicePick
 rw [h1, h2, h3]
 simp only [sliceRange_one, pick_run, List.size_toArray] <;> rfl
def rSlL (K : PySem.W.Frag) : V -> Option Int -> Option Int -> Hp -> VK -> Prop := fun x lo hi H Q => ∃ a xs, x = .ref a /\ SqL K H a xs /\ ∀ p, H p = none -> Q (.ref p) (upd H p (.lst (cutV xs lo hi)))
theorem sl_list : SlR X (rSlL X.K) := by
 intro pins s σ H x v vl vu lo hi sl Q I rx hs pl pu h
 obtain ⟨a, xs, rfl, hx, q⟩ := h
 cases rx
 obtain ⟨its, r, ht, hz⟩ := I.list hx
 have hlen := r.length
 refine ⟨"list", _, slot_list_getitem.lookup, ht.isList.typeIs, ?_⟩
 refine wpAny_getItem_list_slice ht.isList hs pl pu .none (by simp) ?_ (by rw [List.size_toArray] <;> omega)
 rw [slicePick_cut, <- hlen]
 refine ⟨.ref s.heap.objs.size, _, I.laid (t' := s.toks) (o := .lst (cutV xs lo hi)) (fun b ob q => Heap.get?_push_of_some _ q) (Nat.le_refl _) ?_, rfl, q _ (I.hok.fresh (Nat.le_refl _))⟩
 exact ⟨Nat.le_trans (cutV_length xs lo hi) hz, _, 0, (r.drop (HT.sIx xs.length 0 lo)).take (HT.sIx xs.length xs.length hi - HT.sIx xs.length 0 lo), Heap.get?_push_size _ rfl⟩
def flatV : V -> Bool
 | .non => true
 | .bl _ => true
 | .int _ => true
 | .str _ => true
 | _ => false
def eqV : V -> V -> Bool
 | .non, .non => true
 | .bl a, .bl b => a == b
 | .bl a, .int b => (if a then 1 else 0) == b
 | .int a, .bl b => a == (if b then 1 else 0)
 | .int a, .int b => a == b
 | .str a, .str b => a == b
 | _, _ => false
theorem eqAt_V {A : Around} {s : Shared} {y x : V} {u v : Value} (ry : RelV y u) (rx : RelV x v) (fy : flatV y = true) (fx : flatV x = true) : SeqAt.EqAt A s u v (eqV y x) := by
 cases y with
 | non =>
  cases ry
  cases x with
  | non => cases rx; exact SeqAt.EqAt.same _
  | bl b => cases rx; exact SeqAt.EqAt.none_bool b
  | int b => obtain ⟨t, rfl⟩ := rx; exact SeqAt.EqAt.none_int b t
  | str b => obtain ⟨t, rfl⟩ := rx; exact SeqAt.EqAt.none_str b t
  | _ => exact absurd (show false = true from fx) Bool.false_ne_true
 | bl a =>
  cases ry
  cases x with
  | non => cases rx; exact SeqAt.EqAt.bool_none a
  | bl b => cases rx; exact SeqAt.EqAt.bool_bool a b
  | int b => obtain ⟨t, rfl⟩ := rx; exact SeqAt.EqAt.bool_int a b t
  | str b => obtain ⟨t, rfl⟩ := rx; exact SeqAt.EqAt.bool_str a b t
  | _ => exact absurd (show false = true from fx) Bool.false_ne_true
 | int a =>
  obtain ⟨t', rfl⟩ := ry
  cases x with
  | non => cases rx; exact SeqAt.EqAt.int_none a t'
  | bl b => cases rx; exact SeqAt.EqAt.int_bool a t' b
  | int b => obtain ⟨t, rfl⟩ := rx; exact SeqAt.EqAt.int_int a t' b t
  | str b => obtain ⟨t, rfl⟩ := rx; exact SeqAt.EqAt.int_str a t' b t
  | _ => exact absurd (show false = true from fx) Bool.false_ne_true
 | str a =>
  obtain ⟨t', rfl⟩ := ry
  cases x with
  | non => cases rx; exact SeqAt.EqAt.str_none a t'
  | bl b => cases rx; exact SeqAt.EqAt.str_bool a t' b
  | int b => obtain ⟨t, rfl⟩ := rx; exact SeqAt.EqAt.str_int a t' b t
  | str b => obtain ⟨t, rfl⟩ := rx; exact SeqAt.EqAt.str_str a t' b t
  | _ => exact absurd (show false = true from fx) Bool.false_ne_true
 | _ => exact absurd (show false = true from fy) Bool.false_ne_true
def eqU (x : V) (u : Value) : Bool := match u with
 | .none => eqV .non x
 | .bool b => eqV (.bl b) x
 | .int i _ => eqV (.int i) x
 | .str z _ => eqV (.str z) x
 | _ => false
theorem eqU_of {x y : V} {u : Value} (r : RelV y u) (f : flatV y = true) : eqU x u = eqV y x := by
 cases y with
 | non => cases r; rfl
 | bl b => cases r; rfl
 | int i => obtain ⟨t, rfl⟩ := r; rfl
 | str z => obtain ⟨t, rfl⟩ := r; rfl
 | _ => exact absurd (show false = true from f) Bool.false_ne_true
theorem any_eqU {x : V} : ∀ {xs : List V} {us : List Value}, Vals xs us -> xs.all flatV = true -> us.any (eqU x) = xs.any fun y => eqV y x
 | _, _, .nil, _ => rfl
 | y :: xs, u :: us, .cons r t, f => by
  rw [List.all_cons, Bool.and_eq_true] at f
  rw [List.any_cons, List.any_cons, eqU_of r f.1, any_eqU t f.2]
theorem mem_eqAt {A : Around} {s : Shared} {x : V} {v : Value} (rx : RelV x v) (fx : flatV x = true) : ∀ {xs : List V} {us : List Value}, Vals xs us -> xs.all flatV = true -> ∀ u ∈ us, SeqAt.EqAt A s u v (eqU x u)
 | _, _, .nil, _ => fun u hu => by cases hu
 | y :: xs, u :: us, .cons r t, f => fun u' hu => by
  rw [List.all_cons, Bool.and_eq_true] at f
  rcases List.mem_cons.mp hu with rfl | hu
  ·rw [eqU_of r f.1]; exact eqAt_V r rx f.1 fx
  ·exact mem_eqAt rx fx t f.2 u' hu
def inV (x : V) (xs : List V) : Bool := xs.any fun y => eqV y x
def rIn (K : PySem.W.Frag) (neg : Bool) : R2 := fun x y H Q => ∃ p xs, y = .ref p /\ (SqL K H p xs \/ SqT K H p xs) /\ flatV x = true /\ xs.all flatV = true /\ Q (.bl (if neg then !inV x xs else inV x xs)) H
theorem op_in_seq : OpR X (compareOp .In) (rIn X.K false) := by
 intro pins s σ H x y v u Q I rx ry h
 obtain ⟨p, xs, rfl, hq, fx, fs, q⟩ := h
 cases ry
 rcases hq with hq | hq
 ·obtain ⟨its, r, pl, hz⟩ := I.list hq
  refine SeqAt.in_listAt (eqU x) pl.isList (fun w hw => mem_eqAt rx fx r fs w (by simpa using hw)) ⟨.bl _, H, I, rfl, ?_⟩
  rw [show its.toArray.any (eqU x) = its.any (eqU x) by simp, any_eqU r fs]
  exact q
 ·obtain ⟨its, r, pl, hz⟩ := I.tuple hq
  refine SeqAt.in_tupleAt (eqU x) pl (fun w hw => mem_eqAt rx fx r fs w (by simpa using hw)) ⟨.bl _, H, I, rfl, ?_⟩
  rw [show its.toArray.any (eqU x) = its.any (eqU x) by simp, any_eqU r fs]
  exact q
theorem cLn : CallR X (.builtin "len") (fun xs H Q => ∃ p ys, xs = [.ref p] /\ (SqL X.K H p ys \/ SqT X.K H p ys) /\ Q (.int ys.length) H) := by
 intro pins s σ H xs us Q I r h
 obtain ⟨p, ys, rfl, hq, q⟩ := h
 obtain ⟨u, rfl, rx⟩ := vals1 r
 cases rx
 have hn := line63
 rcases hq with hq | hq
 ·obtain ⟨its, r', pl, hz⟩ := I.list hq
  have hlen := r'.length
  exact Calls.call_len_list pl.isList (by simp only [List.size_toArray] <;> omega) ⟨.int ys.length, H, I.tok _, ⟨s.toks + 1, by rw [List.size_toArray, hlen]⟩, q⟩
 ·obtain ⟨its, r', pl, hz⟩ := I.tuple hq
  have hlen := r'.length
  exact len_tuple pl (by simp only [List.size_toArray] <;> omega) ⟨.int ys.length, H, I.tok _, ⟨s.toks + 1, by rw [List.size_toArray, hlen]⟩, q⟩
def tyV (K : PySem.W.Frag) (T : String) (x : V) (H : Hp) : Prop := match x with
 | .str _ => T = "str"
 | .int _ => T = "int"
 | .ref p => (T = "list" /\ ∃ xs, SqL K H p xs) \/ (T = "tuple" /\ ∃ o, K.lookup p = some o /\ o.cls = .type "tuple" /\ o.dict = none) \/
   (T = "dict" /\ ((∃ kvs, H p = some (.dK kvs)) \/ ∃ kvs, H p = some (.dT kvs))) \/ (T = "set" /\ ∃ S n, H p = some (.set S n))
 | _ => False
theorem tyV_is {pins : List (Addr × Obj)} {σ : St} {H : Hp} {s : Shared} {T : String} {x : V} {v : Value} (I : Inv X pins σ H s) (r : RelV x v) (ty : tyV X.K T x H) :
  s.TypeIs v T /\ ∀ a, v = .ref a -> ∃ ob, s.heap.get? a = some ob /\ ob.dict = none := by
 cases x with
 | str z =>
  obtain ⟨t, rfl⟩ := r
  cases (show T = "str" from ty)
  exact ⟨typeIs_str s z t, fun _ e => nomatch e⟩
 | int i =>
  obtain ⟨t, rfl⟩ := r
  cases (show T = "int" from ty)
  exact ⟨typeIs_int s i t, fun _ e => nomatch e⟩
 | ref p =>
  cases r
  rcases ty with ⟨rfl, xs, hq⟩ | ⟨rfl, o, hk, hc, hd⟩ | ⟨rfl, hk⟩ | ⟨rfl, S, n, hk⟩
  ·obtain ⟨its, _, pl, _⟩ := I.list hq
   refine ⟨pl.isList.typeIs, fun a e => ?_⟩
   cases e
   obtain ⟨o, n, e, c, hd, _⟩ := pl
   exact ⟨o, e, hd⟩
  ·refine ⟨⟨o, I.kIn p o hk, hc⟩, fun a e => ?_⟩
   cases e
   exact ⟨o, I.kIn _ o hk, hd⟩
  ·have z : ∃ o, s.heap.get? p = some o /\ o.ExactDict := by
    rcases hk with ⟨kvs, hk⟩ | ⟨kvs, hk⟩
    ·obtain ⟨_, _, _, _, o, _, _, e, ex, _⟩ := I.hok p _ hk
     exact ⟨o, e, ex⟩
    ·obtain ⟨_, _, _, _, o, _, _, e, ex, _⟩ := I.hok p _ hk
     exact ⟨o, e, ex⟩
   obtain ⟨o, e, ex⟩ := z
   refine ⟨⟨o, e, ex.1⟩, fun a e2 => ?_⟩
   cases e2
   exact ⟨o, e, ex.2.1⟩
  ·obtain ⟨o, _, _, _, e, ex, _⟩ := I.hok p _ hk
   refine ⟨⟨o, e, ex.1⟩, fun a e2 => ?_⟩
   cases e2
   exact ⟨o, e, ex.2.1⟩
 | _ => exact False.elim ty
def tBM (K : PySem.W.Frag) (T : String) (r : V -> List V -> Hp -> VK -> Prop) (to : TE) (t : TA) : TE := fun σ H Q => to σ H fun x H1 => tyV K T x H1 /\ t σ H1 fun xs H2 => r x xs H2 Q
variable {o e : Expr} {es : List Expr} {to : TE} {t : TA} {name : Str} {apos cpos : Pos} {T id : String} {r : V -> List V -> Hp -> VK -> Prop}
theorem pe_bm (pa : PlainAttrs T) (slot : Slot T name id) (hty : typeOf (.builtin id) = pure (.type "method_descriptor")) (hm : MtR X id r) (ho : PE X o to) (ha : PA X (e :: es) t)
  (hbase : attributeBase o name X.env (eval o X.env) = eval o X.env := by rfl)
  (hfew : ((backTo cpos (starEach (e :: es) X.env)).all (fun x => !x.1) && (backToKw cpos (keywordEach [] X.env)).all (fun x => x.1.isSome)
   && decide ((e :: es).length + ([] : List Keyword).length + (if ([] : List Keyword).isEmpty then 0 else 1) < 30)) = true := by rfl)
  (hline : (apos.endLine == cpos.line) = true := by rfl) (hs : starEach (e :: es) X.env = (false, eval e X.env) :: starEach es X.env := by rfl) (hplain : (backTo cpos (starEach es X.env)).any (·.1) = false := by rfl) :
  PE X (.Call (.Attribute o name apos) (e :: es) [] cpos) (tBM X.K T r to t) := by
 intro pins s σ H Q I h
 refine wpAny_Call_method_late hbase hfew hline rfl (thn (ho pins s σ H _ I h) fun v s1 ⟨x, H1, I1, r1, ty, q1⟩ => ?_)
 obtain ⟨h1, h2⟩ := tyV_is I1 r1 ty
 refine ⟨T, id, pa, slot, hty, h1, h2, ?_⟩
 have hA := ha cpos pins s1 σ H1 _ I1 q1
 rw [hs] at hA ⊢
 refine Calls.callWith_builtin (by show (false || (backTo cpos (starEach es X.env)).any (·.1)) = false; rw [hplain] <;> rfl) (Calls.evalArgs_plain ?_)
 exact thn hA fun us s2 ⟨vs, H2, I2, r2, q2⟩ => hm pins s2 σ H2 x vs v us Q I2 r1 r2 q2
end
end L2
namespace L2
open PySem PySem.Spec PyProof.Rows
def MtM (X : Cx) (id : String) (r : V -> List V -> Hp -> VK -> Prop) : Prop :=
 ∀ (pins : List (Addr × Obj)) (s : Shared) (σ : St) (H : Hp) (x : V) (xs : List V) (v : Value) (us : List Value) (Q : VK), Inv X pins σ H s -> RelV x v -> Vals xs us -> r x xs H Q ->
  wpAny (model X.prog X.w) X.A (call (.builtin id) (v :: us)) (EP X pins σ Q) X.xe s
theorem Vals.one : ∀ {x : V} {us : List Value}, Vals [x] us -> ∃ u, us = [u] /\ RelV x u
 | _, _, .cons r .nil => ⟨_, rfl, r⟩
theorem Vals.two : ∀ {x y : V} {us : List Value}, Vals [x, y] us -> ∃ u v, us = [u, v] /\ RelV x u /\ RelV y v
 | _, _, _, .cons r (.cons q .nil) => ⟨_, _, rfl, r, q⟩
theorem Vals.eraseIdx : ∀ {xs : List V} {us : List Value} (i : Nat), Vals xs us -> Vals (xs.eraseIdx i) (us.eraseIdx i)
 | _, _, _, .nil => .nil
 | _, _, 0, .cons _ t => t
 | _, _, i + 1, .cons r t => .cons r (Vals.eraseIdx i t)
theorem Vals.rep {xs : List V} {us : List Value} (h : Vals xs us) : ∀ k : Nat, Vals (List.replicate k xs).flatten (List.replicate k us).flatten
 | 0 => .nil
 | k + 1 => by
  rw [List.replicate_succ, List.replicate_succ, List.flatten_cons, List.flatten_cons]
  exact Vals.append h (Vals.rep h k)
theorem len_erase {α : Type} : ∀ (l : List α) (i : Nat), (l.eraseIdx i).length <= l.length
 | [], _ => Nat.le_refl _
 | _ :: _, 0 => Nat.le_succ _
 | _ :: r, i + 1 => Nat.succ_le_succ (len_erase r i)
theorem foldl_rep (its : List Value) : ∀ (k : Nat) (acc : List Value),
  List.foldl (fun x1 x2 => x1 ++ x2) acc.toArray (List.replicate k its.toArray) = (acc ++ (List.replicate k its).flatten).toArray
 | 0, acc => by simp
 | k + 1, acc => by
  have e : acc.toArray ++ its.toArray = (acc ++ its).toArray := by simp
  have e2 : (acc ++ its) ++ (List.replicate k its).flatten = acc ++ (List.replicate (k + 1) its).flatten := by
   rw [List.replicate_succ, List.flatten_cons, List.append_assoc]
  rw [<- e2, <- foldl_rep its k (acc ++ its), <- e, List.replicate_succ, List.foldl_cons]
section
variable {X : Cx} {pins : List (Addr × Obj)} {σ : St} {H : Hp} {s : Shared} {l b : Addr} {xs ys zs : List V}
theorem Inv.lset {its its' : List Value} {n : Nat} {f : Array Value -> Array Value} {t' : Nat} (I : Inv X pins σ H s) (hH : H l = some (.lst xs))
  (e : s.heap.get? l = some { cls := .type "list", data := .seq its.toArray n }) (hf : f its.toArray = its'.toArray) (hv : Vals ys its') (hz : ys.length <= sizeLine) :
  Inv X pins σ (upd H l (.lst ys)) { s with heap := s.heap.update l (Obj.mapSeq f), toks := t' } := by
 have q := PySem.IsL.update e f
 rw [hf] at q
 refine I.write (x := l) (e := l) (by rw [hH]; exact trivial) (.inl rfl) (fun b' u hb hu => (Heap.get?_update_other s.heap (Obj.mapSeq f) (Ne.symm hb)).trans hu) ⟨_, q⟩ ?_
 exact ⟨hz, its', _, hv, q⟩
theorem Inv.lnew {its : List Value} {t' : Nat} (I : Inv X pins σ H s) (hv : Vals ys its) (hz : ys.length <= sizeLine) :
  Inv X pins σ (upd H s.heap.objs.size (.lst ys)) { s with heap := s.heap.push { cls := .type "list", data := .seq its.toArray }, toks := t' } :=
 I.laid (fun _ _ q => Heap.get?_push_of_some _ q) (Nat.le_refl _) ⟨hz, its, 0, hv, Heap.get?_push_size _ rfl⟩
theorem Inv.fresh (I : Inv X pins σ H s) : H s.heap.objs.size = none := I.hok.fresh (Nat.le_refl _)
theorem Inv.lstM (I : Inv X pins σ H s) (hH : H l = some (.lst xs)) : xs.length <= sizeLine /\ ∃ (its : List Value) (n : Nat), Vals xs its /\ xs.length = its.length /\ s.heap.get? l = some { cls := .type "list", data := .seq its.toArray n } := by
 obtain ⟨z, its, n, r, e⟩ := I.hok l _ hH
 exact ⟨z, its, n, r, r.length, e⟩
theorem notLongL {n : Nat} (h : n <= sizeLine) : Builtin.List.listTooLong n = false := by
 unfold Builtin.List.listTooLong
 exact decide_eq_false (by omega)
end
section
variable {X : Cx}
def rAppend : V -> List V -> Hp -> VK -> Prop := fun x vs H Q => ∃ l xs y, x = .ref l /\ vs = [y] /\ H l = some (.lst xs) /\ xs.length < sizeLine /\ Q .non (upd H l (.lst (xs ++ [y])))
theorem mt_append : MtM X "list.append" rAppend := by
 intro pins s σ H x vs v us Q I rx rv h
 obtain ⟨l, xs, y, rfl, rfl, hH, hz, q⟩ := h
 cases rx
 obtain ⟨u, rfl, ru⟩ := rv.one
 obtain ⟨z, its, n, r, hl, e⟩ := I.lstM hH
 refine call_meets F.slot_list_append ⟨_, e, rfl⟩ F.entry_list_append (F.args_list_append_2 _ _) (PySem.list_append l its.toArray n u (by rw [List.size_toArray]; omega)) ⟨e, ?_⟩
 refine ⟨.non, _, I.lset (its' := its ++ [u]) hH e (by simp) (r.append (.cons ru .nil)) ?_, rfl, q⟩
 rw [List.length_append, List.length_singleton]
 omega
def rExtend : V -> List V -> Hp -> VK -> Prop := fun x vs H Q => ∃ l b xs zs, x = .ref l /\ vs = [.ref b] /\ H l = some (.lst xs) /\ H b = some (.lst zs) /\ xs.length + zs.length <= sizeLine /\ Q .non (upd H l (.lst (xs ++ zs)))
theorem mt_extend : MtM X "list.extend" rExtend := by
 intro pins s σ H x vs v us Q I rx rv h
 obtain ⟨l, b, xs, zs, rfl, rfl, hH, hB, hz, q⟩ := h
 cases rx
 obtain ⟨u, rfl, ru⟩ := rv.one
 cases ru
 obtain ⟨z, its, n, r, hl, e⟩ := I.lstM hH
 obtain ⟨z2, its2, n2, r2, hl2, e2⟩ := I.lstM hB
 have hsz : its.toArray.size + its2.toArray.size <= sizeLine := by rw [List.size_toArray, List.size_toArray]; omega
 have hlong : ¬ (!its.toArray.isEmpty && Builtin.List.listTooLong (its.toArray.size + its2.toArray.size)) = true := by
  rw [notLongL hsz, Bool.and_false]
  exact Bool.false_ne_true
 refine call_meets F.slot_list_extend ⟨_, e, rfl⟩ F.entry_list_extend (F.args_list_extend_2 _ _)
  (AutoSeq1.list_extend_list_list_0 l its.toArray n b its2.toArray n2 hlong (by rw [List.size_toArray]; omega) (by omega)) ⟨e, e2, ?_⟩
 refine ⟨.non, _, I.lset (its' := its ++ its2) hH e (by simp) (r.append r2) ?_, rfl, q⟩
 rw [List.length_append]
 omega
def rCat : R2 := fun x y H Q => ∃ l b xs zs, x = .ref l /\ y = .ref b /\ H l = some (.lst xs) /\ H b = some (.lst zs) /\ xs.length + zs.length <= sizeLine /\ ∀ p, H p = none -> Q (.ref p) (upd H p (.lst (xs ++ zs)))
theorem op_cat : OpR X (binaryOp .Add) rCat := by
 intro pins s σ H x y v u Q I rx ry h
 obtain ⟨l, b, xs, zs, rfl, rfl, hH, hB, hz, q⟩ := h
 cases rx
 cases ry
 obtain ⟨z, its, n, r, hl, e⟩ := I.lstM hH
 obtain ⟨z2, its2, n2, r2, hl2, e2⟩ := I.lstM hB
 refine PySem.P.add_list e e2 ?_ (by rw [List.size_toArray, List.size_toArray]; omega)
 have ea : its.toArray ++ its2.toArray = (its ++ its2).toArray := by simp
 rw [ea]
 exact ⟨.ref _, _, I.lnew (t' := s.toks) (r.append r2) (by rw [List.length_append]; omega), rfl, q _ I.fresh⟩
def rRep : R2 := fun x y H Q => ∃ l k xs, x = .ref l /\ y = .int k /\ H l = some (.lst xs) /\ -(2 ^ 63) <= k /\ k < 2 ^ 63 /\ xs.length * k.toNat <= sizeLine /\
 ∀ p, H p = none -> Q (.ref p) (upd H p (.lst (List.replicate k.toNat xs).flatten))
theorem len_rep {α : Type} (xs : List α) (k : Nat) : (List.replicate k xs).flatten.length = k * xs.length := by
 induction k with
 | zero => simp
 | succ k ih => rw [List.replicate_succ, List.flatten_cons, List.length_append, ih, Nat.succ_mul, Nat.add_comm]
theorem op_rep : OpR X (binaryOp .Mult) rRep := by
 intro pins s σ H x y v u Q I rx ry h
 obtain ⟨l, k, xs, rfl, rfl, hH, h1, h2, hz, q⟩ := h
 cases rx
 obtain ⟨t, rfl⟩ := ry
 obtain ⟨z, its, n, r, hl, e⟩ := I.lstM hH
 have hlen : its.toArray.size * k.toNat <= sizeLine := by rw [List.size_toArray, <- hl]; exact hz
 have hcap : ¬ its.toArray.size * k.toNat > (2 ^ 63 - 1) / 8 := by
  have : (sizeLine : Nat) <= (2 ^ 63 - 1) / 8 := by decide
  omega
 have hfit : ¬ (!Builtin.List.listFitsIndex k) = true := by
  rw [fitsIndex_both h1 h2]
  exact Bool.false_ne_true
 have hlong : ¬ Builtin.List.listTooLong (its.toArray.size * k.toNat) = true := by
  rw [notLongL hlen]
  exact Bool.false_ne_true
 have hnew : List.foldl (fun x1 x2 => x1 ++ x2) #[] (List.replicate (if its.toArray.isEmpty = true then 0 else k.toNat) its.toArray) = (List.replicate k.toNat its).flatten.toArray := by
  have f0 : ∀ m : Nat, List.foldl (fun x1 x2 => x1 ++ x2) #[] (List.replicate m its.toArray) = (List.replicate m its).flatten.toArray := fun m => by
   have := foldl_rep its m []
   rw [List.nil_append] at this
   exact this
  rw [f0]
  cases its with
  | nil => simp
  | cons a r' => rw [if_neg (by simp)]
 refine wpAny_binaryOp_repeat_ref (T := "list") (U := "int") (by decide) ⟨_, e, rfl⟩ (fun s' => typeIs_int s' k t) noFill_list_mul F.fills_int_mul F.slot_int_rmul repeat_list F.slot_int_index.lookup
  (call_meets F.slot_int_rmul (typeIs_int s k t) F.entry_int_rmul (F.args_int_rmul_2 _ _) (int___rmul___int_list k t l its.toArray n)
   ⟨e, rfl, ⟨_, e, rfl⟩, call_meets F.slot_list_mul ⟨_, e, rfl⟩ F.entry_list_mul (F.args_list_mul_2 _ _) (AutoListH.list___mul___list_int_3 l its.toArray n k t hfit hcap hlong) ⟨e, ?_⟩⟩)
 rw [hnew]
 exact ⟨.ref _, _, I.lnew (t' := s.toks) (r.rep k.toNat) (by rw [len_rep, Nat.mul_comm]; exact hz), rfl, q _ I.fresh⟩
end
section
variable {prog : Program} {w : World} {A : Around} {E : Value -> Shared -> Prop} {s : Shared}
set_option maxRecDepth 100000 in
end
end L2
namespace L2
open PySem PySem.Spec PyProof.Rows
theorem Vals.ints : ∀ {ns : List Int} {us : List Value}, Vals (ns.map V.int) us -> IntsAre us ns
 | [], us, h => by
  rw [List.map_nil] at h
  cases h
  exact IntsAre.nil
 | n :: ns, us, h => by
  rw [List.map_cons] at h
  cases h with
  | cons r t =>
   obtain ⟨k, rfl⟩ := r
   exact IntsAre.cons n k (Vals.ints t)
theorem vals_of_ints : ∀ {us : List Value} {ns : List Int}, IntsAre us ns -> Vals (ns.map V.int) us
 | _, _, .nil => by rw [List.map_nil]; exact Paired.nil
 | _, _, .cons n t h => by rw [List.map_cons]; exact Paired.cons (show RelV (V.int n) (Value.int n t) from ⟨t, rfl⟩) (vals_of_ints h)
theorem Vals.bls : ∀ {bs : List Bool} {us : List Value}, Vals (bs.map V.bl) us -> us = bs.map Value.bool
 | [], us, h => by
  rw [List.map_nil] at h
  cases h
  rfl
 | b :: bs, us, h => by
  rw [List.map_cons] at h
  cases h with
  | cons r t =>
   cases r
   rw [Vals.bls t, List.map_cons]
theorem Vals.ref1 {a : Addr} {us : List Value} (r : Vals [V.ref a] us) : us = [Value.ref a] := by
 cases r with
 | cons r t =>
  cases t
  cases r
  rfl
section
variable {prog : Program} {w : World} {A : Around} {E : Value -> Shared -> Prop} {s : Shared} {l : Addr} {its : List Value} {ns : List Int} {Q : Value -> Shared -> Prop}
theorem sum_raw (hh : A.handled = none) (hl : s.heap.IsList l its.toArray) (hi : IntsAre its ns)
  (h : ∀ h' tk t', (∀ b o, s.heap.get? b = some o -> h'.get? b = some o) -> Q (.int ns.sum t') { s with heap := h', toks := tk }) : wpAny (model prog w) A (call (.builtin "sum") [.ref l]) Q E s := by
 obtain ⟨xs, e⟩ := hi.allInts.items
 have hn : numsOf (intItems xs).toList = ns := by rw [<- e]; exact hi.numsOf
 rw [nums_intItems] at hn
 rw [e] at hl
 refine PySem.sum_intListG hh hl fun h' tk t' hk => ?_
 have := h h' tk t' hk
 rw [preSum_eq, List.take_of_length_le (by simp), hn]; exact this
end
section
variable {X : Cx}
def rSum (K : PySem.W.Frag) : List V -> Hp -> VK -> Prop := fun vs H Q => ∃ (a : Addr) (ns : List Int), vs = [V.ref a] /\ SqL K H a (ns.map V.int) /\ Q (.int ns.sum) H
theorem cr_sum (hc : X.calm = true) : CallR X (.builtin "sum") (rSum X.K) := by
 intro pins s σ H vs us Q I r h
 obtain ⟨a, ns, rfl, hs, q⟩ := h
 obtain ⟨its, rv, hl, _⟩ := I.list hs
 rw [Vals.ref1 r]
 exact sum_raw (I.ok.hd hc) hl.isList rv.ints fun h' tk t' hk => ⟨.int _, H, I.kept hk, ⟨_, rfl⟩, q⟩
def rSorted (K : PySem.W.Frag) : List V -> Hp -> VK -> Prop := fun vs H Q => ∃ (a : Addr) (ns : List Int), vs = [V.ref a] /\ SqL K H a (ns.map V.int) /\ ns.length < 64 /\
 ∀ (ns' : List Int) (p : Addr), ns'.Perm ns -> ns'.Pairwise (· <= ·) -> H p = none -> Q (.ref p) (upd H p (.lst (ns'.map V.int)))
theorem small64 {n : Nat} (h : n < 64) : n <= sizeLine := by rw [sizeLine_eq]; omega
theorem cr_sorted : CallR X (.builtin "sorted") (rSorted X.K) := by
 intro pins s σ H vs us Q I r h
 obtain ⟨a, ns, rfl, hs, h64, q⟩ := h
 obtain ⟨its, rv, hl, _⟩ := I.list hs
 rw [Vals.ref1 r]
 have hi := rv.ints
 refine PyProof.Rows.sorted_ints hl.isList hi (by rw [hi.length]; exact h64) fun out ns' h1 h2 h3 => ?_
 obtain ⟨ep, he'⟩ := PyProof.Rows.sortedAll_at s.heap its out
 have hlen : (ns'.map V.int).length <= sizeLine := by rw [List.length_map, h2.length_eq]; exact small64 h64
 exact ⟨.ref _, upd H (s.heap.objs.size + 1) (.lst (ns'.map V.int)), I.laid (t' := s.toks) (fun _ _ => PyProof.Rows.sortedAll_old) (Nat.le_succ _) ⟨hlen, out.toList, ep, vals_of_ints h1, he'⟩, rfl, q ns' _ h2 h3 (I.hok.fresh (Nat.le_succ _))⟩
end
theorem iter_any {prog : Program} {w : World} {A : Around} {E : Value -> Shared -> Prop} {s : Shared} {l : Addr} {items : Array Value} {Q : Value -> Shared -> Prop} (hl : s.heap.IsList l items)
  (h : ∀ s₂ : Shared, s₂ = { s with heap := s.heap.push { cls := .type "list_iterator", data := .fields #[.ref l, .int 0 0] } } ->
   (s₂.heap.IsListIter s.heap.objs.size l 0 /\ s₂.heap.IsList l items) -> l ≠ s.heap.objs.size -> Q (.ref s.heap.objs.size) s₂) : wpAny (model prog w) A (pyIter (.ref l)) Q E s := by
 have hlt : l < s.heap.objs.size := by obtain ⟨_, e, _⟩ := hl; exact Heap.lt_size e
 exact wpAny_pyIter_list hl (h _ rfl ⟨⟨_, Heap.get?_push_size _ rfl, rfl, rfl⟩, hl.push _⟩ (Nat.ne_of_lt hlt))
theorem truth_bools {prog : Program} {w : World} {A : Around} {bs : List Bool} {its : List Value} (e : its = bs.map Value.bool) :
  TruthOf prog w A (fun i v => its.toArray[i]? = some v) (fun i => bs.getD i false) := fun i v s Q E hv hq => by
 have hv' : its[i]? = some v := by simpa using hv
 rw [e, List.getElem?_map] at hv'
 obtain ⟨b, hb, rfl⟩ := Option.map_eq_some_iff.mp hv'
 have hg : bs.getD i false = b := by rw [List.getD_eq_getElem?_getD, hb] <;> rfl
 have hq' : Q (bs.getD i false) s := hq
 rw [hg] at hq'
 exact wpAny_truthy_bool hq'
theorem any_range : ∀ bs : List Bool, (List.range bs.length).any (fun i => bs.getD i false) = bs.any id
 | [] => rfl
 | b :: bs => by
  rw [List.length_cons, List.range_succ_eq_map, List.any_cons, List.any_map, List.any_cons, <- any_range bs]
  all_goals rfl
theorem all_range : ∀ bs : List Bool, (List.range bs.length).all (fun i => bs.getD i false) = bs.all id
 | [] => rfl
 | b :: bs => by
  rw [List.length_cons, List.range_succ_eq_map, List.all_cons, List.all_map, List.all_cons, <- all_range bs]
  all_goals rfl
section
variable {X : Cx}
def rAny (K : PySem.W.Frag) : List V -> Hp -> VK -> Prop := fun vs H Q => ∃ (a : Addr) (bs : List Bool), vs = [V.ref a] /\ SqL K H a (bs.map V.bl) /\ Q (.bl (bs.any id)) H
def rAll (K : PySem.W.Frag) : List V -> Hp -> VK -> Prop := fun vs H Q => ∃ (a : Addr) (bs : List Bool), vs = [V.ref a] /\ SqL K H a (bs.map V.bl) /\ Q (.bl (bs.all id)) H
theorem cr_any (hc : X.calm = true) : CallR X (.builtin "any") (rAny X.K) := by
 intro pins s σ H vs us Q I r h
 obtain ⟨a, bs, rfl, hs, q⟩ := h
 obtain ⟨its, rv, hl, _⟩ := I.list hs
 rw [Vals.ref1 r]
 have hb := rv.bls
 refine call_any_walk (iter_any hl.isList fun s₂ e2 st hne => ?_)
 subst e2
 refine ⟨_, _, _, _, _, _, _, rfl, Walks.list (A := X.A.in1) (I.ok.hd hc) _ a hne its.toArray, st, truth_bools hb, fun h' tk hk => ?_⟩
 refine ⟨.bl _, H, I.kept fun b o eo => hk b o (fun hmem => ?_) (Heap.get?_push_of_some _ eo), ?_, q⟩
 ·rcases List.mem_cons.mp hmem with e1 | hmem
  ·exact absurd (e1 ▸ Heap.lt_size eo) (Nat.lt_irrefl _)
  ·cases hmem
 ·show Value.bool _ = Value.bool _
  rw [<- any_range, hb, List.size_toArray, List.length_map]
theorem cr_all (hc : X.calm = true) : CallR X (.builtin "all") (rAll X.K) := by
 intro pins s σ H vs us Q I r h
 obtain ⟨a, bs, rfl, hs, q⟩ := h
 obtain ⟨its, rv, hl, _⟩ := I.list hs
 rw [Vals.ref1 r]
 have hb := rv.bls
 refine call_all_walk (iter_any hl.isList fun s₂ e2 st hne => ?_)
 subst e2
 refine ⟨_, _, _, _, _, _, _, rfl, Walks.list (A := X.A.in1) (I.ok.hd hc) _ a hne its.toArray, st, truth_bools hb, fun h' tk hk => ?_⟩
 refine ⟨.bl _, H, I.kept fun b o eo => hk b o (fun hmem => ?_) (Heap.get?_push_of_some _ eo), ?_, q⟩
 ·rcases List.mem_cons.mp hmem with e1 | hmem
  ·exact absurd (e1 ▸ Heap.lt_size eo) (Nat.lt_irrefl _)
  ·cases hmem
 ·show Value.bool _ = Value.bool _
  rw [<- all_range, hb, List.size_toArray, List.length_map]
end
mutual
inductive Dp (K : PySem.W.Frag) (H : Hp) : V -> PyData -> Prop
 | non : Dp K H .non .none
 | bl (b : Bool) : Dp K H (.bl b) (.bool b)
 | int (i : Int) : Dp K H (.int i) (.int i)
 | str (x : Str) : Dp K H (.str x) (.str x)
 | lst {a : Addr} {xs : List V} {ds : List PyData} : SqL K H a xs -> DpAll K H xs ds -> Dp K H (.ref a) (.list ds)
 | tup {a : Addr} {xs : List V} {ds : List PyData} : SqT K H a xs -> DpAll K H xs ds -> Dp K H (.ref a) (.tuple ds)
inductive DpAll (K : PySem.W.Frag) (H : Hp) : List V -> List PyData -> Prop
 | nil : DpAll K H [] []
 | cons {v : V} {vs : List V} {d : PyData} {ds : List PyData} : Dp K H v d -> DpAll K H vs ds -> DpAll K H (v :: vs) (d :: ds)
end
section
variable {X : Cx} {pins : List (Addr × Obj)} {σ : St} {H : Hp} {s : Shared}
mutual
theorem Dp.reads (I : Inv X pins σ H s) : ∀ (d : PyData) (v : V) (u : Value), Dp X.K H v d -> RelV v u -> ∃ as, Reads s.heap u d as
 | .none, _, _, h, r => by
  cases h
  cases r
  exact ⟨_, Reads.none⟩
 | .bool b, _, _, h, r => by
  cases h
  cases r
  exact ⟨_, Reads.bool b⟩
 | .int i, _, _, h, r => by
  cases h
  obtain ⟨t, rfl⟩ := r
  exact ⟨_, Reads.int i t⟩
 | .str x, _, _, h, r => by
  cases h
  obtain ⟨t, rfl⟩ := r
  exact ⟨_, Reads.str x t⟩
 | .list ds, _, _, h, r => by
  cases h with
  | lst hs ha =>
   cases r
   obtain ⟨its, rv, ⟨o, n, ho, hc, _, hd⟩, _⟩ := I.list hs
   obtain ⟨as, hr⟩ := Dp.readsAll I ds _ its ha rv
   exact ⟨_, Reads.list ho hc hd hr⟩
 | .tuple ds, _, _, h, r => by
  cases h with
  | tup hs ha =>
   cases r
   obtain ⟨its, rv, ⟨o, ho, hc, n, hd⟩, _⟩ := I.tuple hs
   obtain ⟨as, hr⟩ := Dp.readsAll I ds _ its ha rv
   exact ⟨_, Reads.tuple ho hc hd hr⟩
 | .dict _, _, _, h, _ => by cases h
theorem Dp.readsAll (I : Inv X pins σ H s) : ∀ (ds : List PyData) (vs : List V) (us : List Value), DpAll X.K H vs ds -> Vals vs us -> ∃ as, ReadsAll s.heap us ds as
 | [], _, _, h, r => by
  cases h
  cases r
  exact ⟨_, ReadsAll.nil⟩
 | d :: ds, _, _, h, r => by
  cases h with
  | cons h1 h2 =>
   cases r with
   | cons r1 r2 =>
    obtain ⟨as, q1⟩ := Dp.reads I d _ _ h1 r1
    obtain ⟨bs, q2⟩ := Dp.readsAll I ds _ _ h2 r2
    exact ⟨_, ReadsAll.cons q1 q2⟩
end
end
section
variable {X : Cx}
def rNeD (K : PySem.W.Frag) : R2 := fun x y H Q => ∃ d e, Dp K H x d /\ Dp K H y e /\ SeqAt.shaped d = true /\ SeqAt.shaped e = true /\ Q (.bl (!PyData.eqv d e)) H
theorem op_neD (hu : X.A.units + 64 < cLine) : OpR X (compareOp .NotEq) (rNeD X.K) := by
 intro pins s σ H x y v u Q I rx ry h
 obtain ⟨d, e, hd, he, sd, se, q⟩ := h
 obtain ⟨as, r1⟩ := Dp.reads I d x v hd rx
 obtain ⟨bs, r2⟩ := Dp.reads I e y u he ry
 exact SeqAt.compareNe_shaped r1 r2 sd se hu ⟨.bl _, H, I, rfl, q⟩
end
end L2
namespace L2
open PySem PySem.Spec PyProof.Rows
abbrev CellAt (h : Heap) (c : Addr) (v : Option Value) : Prop := h.IsCell c v
def relS (scope sc : Scope) : Scope :=
 { scope with names := scope.names.map fun (n, k) => if (k == .free && sc.kind == .function && sc.names.lookup n == some .cell) then (n, .cell) else (n, k) }
def cloFrom (cells : List (Str × Addr)) : List (Str × NameKind) -> List (Str × Addr) -> List (Str × Addr)
 | [], acc => acc
 | (n, k) :: r, acc => if k == .free then cloFrom cells r ((n, (cells.lookup n).getD 0) :: acc) else cloFrom cells r acc
theorem closure_loop (env : Env) (f : Str × NameKind -> List (Str × Addr) -> Sem (ForInStep (List (Str × Addr))))
  (hf : ∀ n k c, f (n, k) c = if k == .free then (do let a <- cellOf env n; pure (.yield ((n, a) :: c))) else pure (.yield c)) :
  ∀ (names : List (Str × NameKind)) (acc : List (Str × Addr)), (∀ y ∈ names, y.2 = .free -> ∃ c, env.cells.lookup y.1 = some c) -> forIn names acc f = pure (cloFrom env.cells names acc)
 | [], acc, _ => by rw [List.forIn_nil]; rfl
 | (n, k) :: r, acc, h => by
  rw [List.forIn_cons, hf]
  have ih := fun acc => closure_loop env f hf r acc fun y hy => h y (List.mem_cons_of_mem _ hy)
  unfold cloFrom
  by_cases hk : (k == NameKind.free) = true
  ·rw [if_pos hk, if_pos hk]
   obtain ⟨c, hc⟩ := h (n, k) List.mem_cons_self (by simpa using hk)
   have e : cellOf env n = pure c := by unfold cellOf; rw [hc]
   rw [e]
   have e2 : (env.cells.lookup n).getD 0 = c := by rw [hc]; rfl
   rw [e2]
   exact ih _
  ·rw [if_neg hk, if_neg hk]
   exact ih _
theorem closure_ok {scope : Scope} {env : Env} (h : ∀ y ∈ scope.names, y.2 = .free -> ∃ c, env.cells.lookup y.1 = some c) : closureFor scope env = pure (cloFrom env.cells scope.names []) := by
 simp only [closureFor]
 rw [closure_loop env _ (fun n k c => rfl) scope.names [] h]
 rfl
theorem mem_lookup {α : Type} : ∀ {l : List (Str × α)} {n : Str} {c : α}, (n, c) ∈ l -> ∃ c', l.lookup n = some c'
 | (k, v) :: r, n, c, h => by
  rw [List.lookup_cons]
  cases hb : n == k with
  | true => exact ⟨_, rfl⟩
  | false =>
   rcases List.mem_cons.mp h with e | h
   ·cases e; simp at hb
   ·exact mem_lookup h
theorem cloFrom_mem {cells : List (Str × Addr)} : ∀ {names : List (Str × NameKind)} {acc : List (Str × Addr)} {n : Str} {c : Addr}, (n, c) ∈ cloFrom cells names acc -> (n, c) ∈ acc \/ ((n, .free) ∈ names /\ c = (cells.lookup n).getD 0)
 | [], _, _, _, h => .inl h
 | (m, k) :: r, acc, n, c, h => by
  unfold cloFrom at h
  split at h
  ·rename_i hk
   have hk : k = .free := by simpa using hk
   rcases cloFrom_mem h with h | ⟨h1, h2⟩
   ·rcases List.mem_cons.mp h with e | h
    ·cases e; exact .inr ⟨hk ▸ List.mem_cons_self, rfl⟩
    ·exact .inl h
   ·exact .inr ⟨List.mem_cons_of_mem _ h1, h2⟩
  ·rcases cloFrom_mem h with h | ⟨h1, h2⟩
   ·exact .inl h
   ·exact .inr ⟨List.mem_cons_of_mem _ h1, h2⟩
theorem cloFrom_acc {cells : List (Str × Addr)} : ∀ {names : List (Str × NameKind)} {acc : List (Str × Addr)} {p : Str × Addr}, p ∈ acc -> p ∈ cloFrom cells names acc
 | [], _, _, h => h
 | (m, k) :: r, acc, p, h => by
  unfold cloFrom
  split
  ·exact cloFrom_acc (List.mem_cons_of_mem _ h)
  ·exact cloFrom_acc h
theorem cloFrom_has {cells : List (Str × Addr)} : ∀ {names : List (Str × NameKind)} {acc : List (Str × Addr)} {n : Str}, (n, .free) ∈ names -> (n, (cells.lookup n).getD 0) ∈ cloFrom cells names acc
 | (m, k) :: r, acc, n, h => by
  unfold cloFrom
  rcases List.mem_cons.mp h with e | h
  ·cases e
   exact cloFrom_acc List.mem_cons_self
  ·split
   ·exact cloFrom_has h
   ·exact cloFrom_has h
theorem cells_mem : ∀ {names : List (Str × NameKind)} {h : Heap} {acc : List (Str × Addr)} {x : Str} {c : Addr}, (x, c) ∈ cellsFrom h.objs.size names acc ->
  (x, c) ∈ acc \/ ((x, .cell) ∈ names /\ h.objs.size <= c /\ CellAt (pushCells h names) c none)
 | [], _, _, _, _, h => .inl h
 | (n, k) :: r, h, acc, x, c, hm => by
  unfold cellsFrom at hm
  unfold pushCells
  split at hm
  ·rename_i hk
   rw [if_pos hk]
   have hk : k = .cell := by simpa using hk
   rw [<- Heap.size_push h { cls := .type "cell", data := .cell none }] at hm
   rcases cells_mem hm with hm | ⟨h1, h2, h3⟩
   ·rcases List.mem_cons.mp hm with e | hm
    ·cases e
     exact .inr ⟨hk ▸ List.mem_cons_self, Nat.le_refl _, _, pushCells_keeps r _ _ _ (Heap.get?_push_size _ rfl), rfl⟩
    ·exact .inl hm
   ·rw [Heap.size_push] at h2
    exact .inr ⟨List.mem_cons_of_mem _ h1, Nat.le_of_succ_le h2, h3⟩
  ·rename_i hk
   rw [if_neg hk]
   rcases cells_mem hm with hm | ⟨h1, h2, h3⟩
   ·exact .inl hm
   ·exact .inr ⟨List.mem_cons_of_mem _ h1, h2, h3⟩
theorem cells_acc : ∀ {names : List (Str × NameKind)} {n : Nat} {acc : List (Str × Addr)} {p : Str × Addr}, p ∈ acc -> p ∈ cellsFrom n names acc
 | [], _, _, _, h => h
 | (m, k) :: r, n, acc, p, h => by
  unfold cellsFrom
  split
  ·exact cells_acc (List.mem_cons_of_mem _ h)
  ·exact cells_acc h
theorem cells_has : ∀ {names : List (Str × NameKind)} {n : Nat} {acc : List (Str × Addr)} {x : Str}, (x, .cell) ∈ names -> ∃ c, (x, c) ∈ cellsFrom n names acc
 | (m, k) :: r, n, acc, x, h => by
  unfold cellsFrom
  rcases List.mem_cons.mp h with e | h
  ·cases e
   exact ⟨n, cells_acc List.mem_cons_self⟩
  ·split
   ·exact cells_has h
   ·exact cells_has h
theorem cells_inj : ∀ {names : List (Str × NameKind)} {h : Heap} {acc : List (Str × Addr)} {x y : Str} {c : Addr}, (∀ p ∈ acc, p.2 < h.objs.size) -> (∀ x y c, (x, c) ∈ acc -> (y, c) ∈ acc -> x = y) ->
  (x, c) ∈ cellsFrom h.objs.size names acc -> (y, c) ∈ cellsFrom h.objs.size names acc -> x = y
 | [], _, _, _, _, _, _, hi, h1, h2 => hi _ _ _ h1 h2
 | (n, k) :: r, h, acc, x, y, c, hl, hi, h1, h2 => by
  unfold cellsFrom at h1 h2
  split at h1
  ·rename_i hk
   rw [if_pos hk] at h2
   rw [<- Heap.size_push h { cls := .type "cell", data := .cell none }] at h1 h2
   refine cells_inj (h := h.push _) (fun p hp => ?_) (fun x y c a b => ?_) h1 h2
   ·rw [Heap.size_push]
    rcases List.mem_cons.mp hp with rfl | hp
    ·exact Nat.lt_succ_self _
    ·exact Nat.lt_succ_of_lt (hl p hp)
   ·rcases List.mem_cons.mp a with e | a <;> rcases List.mem_cons.mp b with e' | b
    ·cases e; cases e'; rfl
    ·cases e; exact absurd (hl _ b) (Nat.lt_irrefl _)
    ·cases e'; exact absurd (hl _ a) (Nat.lt_irrefl _)
    ·exact hi _ _ _ a b
  ·rename_i hk
   rw [if_neg hk] at h2
   exact cells_inj hl hi h1 h2
theorem newEnv_comp {M : Model} {A : Around} {E : Value -> Shared -> Prop} {s : Shared} {scope : Scope} {globals : Addr} {closure : List (Str × Addr)} {qual : Str} {func : Option Addr} {code : Value} {around : Env} {builtins : Addr} {Q : Env -> Shared -> Prop}
  (h : Q (newEnv scope s.heap.objs.size globals (cellsFrom (s.heap.objs.size + 1) scope.names closure) qual func code (some around) builtins)
   { s with heap := pushCells (s.heap.push { cls := .type "dict", data := .dict #[] }) scope.names }) :
  wpAny M A (newFunctionEnv scope globals closure [] qual func code (some around) builtins) Q E s := by
 simp only [newFunctionEnv, Option.isSome_some, if_true]
 refine wpAny_bind (wpAny_alloc ?_)
 refine wpAny_bind (wpAny_layCells _ (fun n k c => rfl) scope.names closure _ _ ?_)
 rw [show ({ s with heap := s.heap.push { cls := .type "dict", data := .dict #[] } } : Shared).heap.objs.size = s.heap.objs.size + 1 from Heap.size_push ..]
 rw [List.forIn_nil]
 exact wpAny_bind (wpAny_pure (wpAny_pure h))
theorem lookup_relS {sc : Scope} : ∀ {names : List (Str × NameKind)} {x : Str} {k : NameKind},
  (names.map fun (n, k) => if (k == NameKind.free && sc.kind == .function && sc.names.lookup n == some .cell) then (n, NameKind.cell) else (n, k)).lookup x = some k ->
  ∃ k', names.lookup x = some k' /\ (k = k' \/ (k' = .free /\ k = .cell))
 | [], _, _, h => by simp at h
 | (n, k₀) :: r, x, k, h => by
  have ih := @lookup_relS sc r x k
  have h' : List.lookup x ((if (k₀ == NameKind.free && sc.kind == .function && sc.names.lookup n == some .cell) = true then (n, NameKind.cell) else (n, k₀)) :: (r.map _)) = some k := h
  cases hx : x == n with
  | true =>
   simp only [List.lookup_cons, hx]
   by_cases hc : (k₀ == NameKind.free && sc.kind == .function && sc.names.lookup n == some .cell) = true
   ·rw [if_pos hc] at h'
    simp only [List.lookup_cons, hx] at h'
    cases h'
    simp only [Bool.and_eq_true, beq_iff_eq] at hc
    exact ⟨k₀, rfl, .inr ⟨hc.1.1, rfl⟩⟩
   ·rw [if_neg hc] at h'
    simp only [List.lookup_cons, hx] at h'
    cases h'
    exact ⟨_, rfl, .inl rfl⟩
  | false =>
   simp only [List.lookup_cons, hx]
   by_cases hc : (k₀ == NameKind.free && sc.kind == .function && sc.names.lookup n == some .cell) = true
   ·rw [if_pos hc] at h'
    simp only [List.lookup_cons, hx] at h'
    exact ih h'
   ·rw [if_neg hc] at h'
    simp only [List.lookup_cons, hx] at h'
    exact ih h'
structure BlkOk (N : List Str) (sc scope : Scope) (own : List (Str × Nat)) : Prop where
 kind : scope.kind = .function
 uniq : ∀ y ∈ scope.names, scope.names.lookup y.1 = some y.2
 ix : ∀ p ∈ own, N[p.2]? = some p.1
 free : ∀ y ∈ scope.names, y.2 = .free -> sc.names.lookup y.1 = some .cell \/ sc.names.lookup y.1 = some .free
 own : ∀ y ∈ scope.names, y.2 = .local \/ y.2 = .cell -> y.1 ∈ own.map (·.1) \/ y.1 ∉ N
def wipe (σ : St) : List Nat -> St
 | [] => σ
 | v :: vs => (wipe σ vs).set v none
theorem wipe_length (σ : St) : ∀ vs : List Nat, (wipe σ vs).length = σ.length
 | [] => rfl
 | v :: vs => by unfold wipe; rw [List.length_set, wipe_length σ vs]
theorem wipe_some {σ : St} {i : Nat} {x : V} : ∀ {vs : List Nat}, (wipe σ vs)[i]? = some (some x) -> σ[i]? = some (some x) /\ i ∉ vs
 | [], h => ⟨h, by simp⟩
 | v :: vs, h => by
  unfold wipe at h
  by_cases hi : v = i
  ·subst hi
   by_cases hv : v < (wipe σ vs).length
   ·rw [List.getElem?_set_self hv] at h; cases h
   ·rw [List.getElem?_eq_none (by simpa using hv)] at h; cases h
  ·rw [List.getElem?_set_ne hi] at h
   obtain ⟨h1, h2⟩ := wipe_some h
   exact ⟨h1, by simp only [List.mem_cons, not_or]; exact ⟨fun e => hi e.symm, h2⟩⟩
abbrev Cx.blk (X : Cx) (s : Shared) (H : Hp) (scope : Scope) (cenv : Env) (fp : List Addr) : Cx := { X with s_0 := s, H_0 := H, env := cenv, outer := X.stack, ex := fp, fn := fun x => scope.names.lookup x == some .cell, pn := [], xe := fun _ _ => False }
section
variable {X : Cx} {pins : List (Addr × Obj)} {σ : St} {H : Hp} {s : Shared}
theorem block_start {scope : Scope} {own : List (Str × Nat)} {fp : List Addr} (I : Inv X pins σ H s) (ok : BlkOk X.N X.env.scope scope own) (hN : X.N.Nodup) (hfp : ∀ b ∈ fp, FpOk X pins H b /\ b < s.heap.objs.size) :
  Inv (X.blk s H scope (compEnvC scope (cellsFrom (s.heap.objs.size + 1) scope.names (cloFrom X.env.cells scope.names [])) s.heap.objs.size X.env) fp) [] (wipe σ (own.map (·.2))) H { s with heap := pushCells (s.heap.push { cls := .type "dict", data := .dict #[] }) scope.names } := by
 have hfree : ∀ y ∈ scope.names, y.2 = .free -> ∃ c, X.env.cells.lookup y.1 = some c := fun y hy e => by
  rcases ok.free y hy e with k | k
  ·exact I.ok.has _ (.inl k)
  ·exact I.ok.has _ (.inr k)
 generalize hcenv : compEnvC scope (cellsFrom (s.heap.objs.size + 1) scope.names (cloFrom X.env.cells scope.names [])) s.heap.objs.size X.env = cenv
 have kp : ∀ b o, s.heap.get? b = some o -> (pushCells (s.heap.push { cls := .type "dict", data := .dict #[] }) scope.names).get? b = some o := fun b o e => pushCells_keeps _ _ _ _ (Heap.get?_push_of_some _ e)
 have hL : cenv.locals = s.heap.objs.size := by rw [<- hcenv]; rfl
 have hcl : cenv.cells = cellsFrom (s.heap.objs.size + 1) scope.names (cloFrom X.env.cells scope.names []) := by rw [<- hcenv]; rfl
 have hsc : cenv.scope = relS scope X.env.scope := by rw [<- hcenv]; rfl
 rw [<- Heap.size_push s.heap { cls := .type "dict", data := .dict #[] }] at hcl
 have cm : ∀ {y c}, (y, c) ∈ cloFrom X.env.cells scope.names [] -> X.env.cells.lookup y = some c /\ c < s.heap.objs.size := fun {y c} hm => by
  rcases cloFrom_mem hm with hm | ⟨h1, rfl⟩
  ·cases hm
  ·obtain ⟨c, hc⟩ := hfree _ h1 rfl
   rw [hc]
   obtain ⟨w, z⟩ := I.cell _ _ hc
   exact ⟨rfl, z.lt⟩
 have mem : ∀ {y c}, cenv.cells.lookup y = some c -> (X.env.cells.lookup y = some c /\ c < s.heap.objs.size) \/ (s.heap.objs.size + 1 <= c /\ CellAt (pushCells (s.heap.push { cls := .type "dict", data := .dict #[] }) scope.names) c none) := fun {y c} e => by
  rw [hcl] at e
  rcases cells_mem (PySem.mem_of_lookup e) with hm | ⟨_, h2, h3⟩
  ·exact .inl (cm hm)
  ·rw [Heap.size_push] at h2; exact .inr ⟨h2, h3⟩
 have look : ∀ {y}, scope.names.lookup y = some .free -> ∃ c, cenv.cells.lookup y = some c /\ X.env.cells.lookup y = some c := fun {y} hl => by
  have hy : (y, NameKind.free) ∈ scope.names := PySem.mem_of_lookup hl
  obtain ⟨c', e'⟩ := mem_lookup (cells_acc (names := scope.names) (n := (s.heap.push { cls := .type "dict", data := .dict #[] }).objs.size) (cloFrom_has (cells := X.env.cells) (acc := []) hy))
  rw [<- hcl] at e'
  refine ⟨c', e', ?_⟩
  rw [hcl] at e'
  rcases cells_mem (PySem.mem_of_lookup e') with hm | ⟨h1, _, _⟩
  ·exact (cm hm).1
  ·have := ok.uniq _ h1
   rw [hl] at this; cases this
 have okB : (X.blk s H scope cenv fp).Ok := by
  refine ⟨I.ok.mod, by show cenv.scope.kind = _; rw [hsc]; exact ok.kind, by show cenv.globals = _; rw [<- hcenv]; exact I.ok.glob, by show cenv.builtins = _; rw [<- hcenv]; exact I.ok.blt, by show s.heap.objs.size <= cenv.locals; rw [hL]; exact Nat.le_refl _,
   fun y z c e1 e2 => ?_, fun y hy => ?_, fun y c z e => ?_, I.ok.hd, I.ok.frames, .inl rfl, fun b hb => ⟨?_, fun y c e z => ?_⟩, I.bs, Nat.le_trans I.ok.bsz I.sz, fun b o e hb => ?_, fun b hb z => ?_, I.stack, I.stkFree⟩
  ·have e1 : cenv.cells.lookup y = some c := e1
   have e2 : cenv.cells.lookup z = some c := e2
   rw [hcl] at e1 e2
   refine cells_inj (fun p hp => ?_) (fun y z c a b => I.ok.inj y z c (cm a).1 (cm b).1) (PySem.mem_of_lookup e1) (PySem.mem_of_lookup e2)
   rw [Heap.size_push]
   exact Nat.lt_succ_of_lt (cm (y := p.1) (c := p.2) hp).2
  ·show ∃ c, cenv.cells.lookup y = some c
   have key : ∀ k, cenv.kindOf y = some k -> (k = .cell \/ k = .free) -> ∃ c, cenv.cells.lookup y = some c := fun k hk hk' => by
    unfold Env.kindOf at hk
    rw [hsc] at hk
    obtain ⟨k', e, r⟩ := lookup_relS hk
    have : k' = .cell \/ k' = .free := by
     rcases r with rfl | ⟨rfl, _⟩
     ·exact hk'
     ·exact .inr rfl
    rcases this with rfl | rfl
    ·obtain ⟨c, hm⟩ := cells_has (n := (s.heap.push { cls := .type "dict", data := .dict #[] }).objs.size) (acc := cloFrom X.env.cells scope.names []) (PySem.mem_of_lookup e)
     obtain ⟨c', e'⟩ := mem_lookup hm
     exact ⟨c', by rw [hcl]; exact e'⟩
    ·obtain ⟨c, h1, _⟩ := look e
     exact ⟨c, h1⟩
   rcases hy with hy | hy
   ·exact key _ hy (.inl rfl)
   ·exact key _ hy (.inr rfl)
  ·have z : (scope.names.lookup y == some NameKind.cell) = true := z
   have z : scope.names.lookup y = some .cell := by simpa using z
   have e : cenv.cells.lookup y = some c := e
   rw [hcl] at e
   rcases cells_mem (PySem.mem_of_lookup e) with hm | ⟨_, h2, _⟩
   ·rcases cloFrom_mem hm with hm | ⟨h1, _⟩
    ·cases hm
    ·have q := ok.uniq _ h1
     rw [z] at q; cases q
   ·rw [Heap.size_push] at h2
    exact Nat.le_of_succ_le h2
  ·show b ≠ cenv.locals
   rw [hL]; exact Nat.ne_of_lt (hfp b hb).2
  ·have e : cenv.cells.lookup y = some c := e
   rcases mem e with ⟨h1, _⟩ | ⟨h1, _⟩
   ·exact (hfp b hb).1.2.2.2.2.1 y c h1 z
   ·have h2 : s.heap.objs.size + 1 <= b := by rw [<- z]; exact h1
    exact absurd (Nat.lt_of_lt_of_le (hfp b hb).2 (Nat.le_of_succ_le h2)) (Nat.lt_irrefl _)
  ·rcases (hfp b hb).1.2.2.2.1 with z | z
   ·exact I.ok.noex b o e z
   ·exact absurd (Nat.lt_of_lt_of_le (Heap.lt_size e) (Nat.le_trans I.ok.bsz z)) (Nat.lt_irrefl _)
  ·rcases List.mem_cons.mp (I.stkSub b z) with z | z
   ·exact (hfp b hb).1.2.1 z
   ·exact (hfp b hb).1.2.2.1 z
 refine ⟨okB, rfl, I.bare, Un.kept kp, ⟨fun _ => none, ?_, fun i y av e1 e2 e3 => ?_⟩, fun y c e => ?_, ?_, fun y c e => ?_, fun p hp => ?_, I.hok.kept kp, by rw [wipe_length]; exact I.len⟩
 ·show Heap.Ns _ cenv.locals _
  rw [hL]
  exact Heap.Ns.keeps (Heap.Ns.new ..) fun b o e => pushCells_keeps _ _ _ _ e
 ·obtain ⟨e2, hne⟩ := wipe_some e2
  have hfr : scope.names.lookup y = some .free /\ (cenv.kindOf y = some .cell \/ cenv.kindOf y = some .free) := by
   have key : ∀ k, cenv.scope.names.lookup y = some k -> k = .local \/ k = .cell \/ k = .free -> scope.names.lookup y = some .free /\ (cenv.kindOf y = some .cell \/ cenv.kindOf y = some .free) := fun k hk hk' => by
    have hk0 := hk
    rw [hsc] at hk
    obtain ⟨k', e, r⟩ := lookup_relS hk
    have no : ¬ (k' = .local \/ k' = .cell) := fun hh => by
     rcases ok.own _ (PySem.mem_of_lookup e) hh with e' | e'
     ·obtain ⟨p, hp, hpy⟩ := List.mem_map.mp e'
      have e3 := ok.ix p hp
      have : p.1 = y := hpy
      rw [this] at e3
      exact hne (List.mem_map.mpr ⟨p, hp, nodup_ix hN e3 e1⟩)
     ·exact e' (List.mem_of_getElem? e1)
    rcases r with rfl | ⟨rfl, rfl⟩
    ·rcases hk' with rfl | rfl | rfl
     ·exact absurd (.inl rfl) no
     ·exact absurd (.inr rfl) no
     ·exact ⟨e, .inr hk0⟩
    ·exact ⟨e, .inl hk0⟩
   have e3 : Vis cenv.scope y := e3
   rcases e3 with e3 | e3 | e3
   ·exact key _ e3 (.inl rfl)
   ·exact key _ e3 (.inr (.inl rfl))
   ·exact key _ e3 (.inr (.inr rfl))
  obtain ⟨m, hn, hl⟩ := I.loc
  have hvis : Vis X.env.scope y := (ok.free _ (PySem.mem_of_lookup hfr.1) rfl).elim (fun k => .inr (.inl k)) (fun k => .inr (.inr k))
  obtain ⟨w, r, q⟩ := hl i y av e1 e2 hvis
  refine ⟨w, r, .inr ⟨hfr.2, ?_⟩⟩
  obtain ⟨c, h1, h2⟩ := look hfr.1
  rcases q with ⟨k, _⟩ | ⟨_, c', e', z⟩
  ·have k : X.env.scope.names.lookup y = some .local := k
   rcases ok.free _ (PySem.mem_of_lookup hfr.1) rfl with k' | k' <;> rw [show X.env.scope.names.lookup y = _ from k'] at k <;> cases k
  ·rw [h2] at e'; cases e'
   exact ⟨c, h1, z.keeps kp⟩
 ·have e : cenv.cells.lookup y = some c := e
  rcases mem e with ⟨h1, _⟩ | ⟨_, z⟩
  ·obtain ⟨w, z⟩ := I.cell y c h1
   exact ⟨w, z.keeps kp⟩
  ·exact ⟨_, z⟩
 ·show H cenv.locals = none
  rw [hL]; exact I.hok.fresh (Nat.le_refl _)
 ·have e : cenv.cells.lookup y = some c := e
  rcases mem e with ⟨h1, _⟩ | ⟨h1, _⟩
  ·exact I.freeC y c h1
  ·exact I.hok.fresh (Nat.le_of_succ_le h1)
 ·exact absurd (show p ∈ ([] : List (Addr × Obj)) ++ [] from hp) (by simp)
theorem app_ok {E : Value -> Shared -> Prop} {D : Addr} {xs : List V} {y : V} {v : Value} {Q : Value -> Shared -> Prop} (I : Inv X pins σ H s) (hD : H D = some (.lst xs)) (hz : xs.length < sizeLine) (r : RelV y v)
  (h : ∀ s', Inv X pins σ (upd H D (.lst (xs ++ [y]))) s' -> Q .none s') : wpAny (model X.prog X.w) X.A (call (.builtin "list.append") [.ref D, v]) Q E s := by
 obtain ⟨hz', its, n, ri, e⟩ := I.hok D _ hD
 have hl := ri.length
 refine append_at (hsz := by rw [List.size_toArray]; omega) e fun h' sb ho' => ?_
 refine h { s with heap := h' } (I.write (t' := s.toks) (by rw [hD]; trivial) (.inl rfl) (fun b u hb q => (sb.2 b hb).trans q) ⟨_, ho'⟩ ⟨by rw [List.length_append]; exact hz, its ++ [v], n + 1, ri.append (.cons r .nil), ?_⟩)
 rw [ho']
 simp
def PTs (X : Cx) (ifs : List Expr) (t : TT) : Prop :=
 ∀ (pins : List (Addr × Obj)) (s : Shared) (σ : St) (H : Hp) (Q : Bool -> Hp -> Prop), Inv X pins σ H s -> t σ H Q ->
  wpAny (model X.prog X.w) X.A (forIn ifs true fun c r => if r = true then do let ok <- isTrue c X.env (eval c X.env); pure (ForInStep.yield ok) else pure (ForInStep.yield r)) (TP X pins σ Q) X.xe s
def tYes : TT := fun _ H Q => Q true H
theorem pts_nil : PTs X [] tYes := fun _ _ _ H _ I h => wpAny_tests_nil ⟨H, I, h⟩
theorem pts_one {c : Expr} {t : TT} (h : PT X c t) : PTs X [c] t := fun pins s σ H Q I hw => wpAny_tests_one (h pins s σ H Q I hw)
end
theorem thnF {α : Type} {t : Sem α} {Q Q' : α -> Shared -> Prop} {M : Model} {A : Around} {E : Value -> Shared -> Prop} {s : Shared} (h : wpAny M A t Q (fun _ _ => False) s) (hQ : ∀ a s, Q a s -> Q' a s) : wpAny M A t Q' E s := wpAny_mono h hQ fun _ _ z => False.elim z
theorem compLoop_any {prog : Program} {w : World} {A : Around} {R : Result -> Shared -> Prop} {s : Shared} {elt target iter : Expr} {ifs : List Expr} {scope : Scope} {pos : Pos} {it acc : Value} {env : Env} (I : Nat -> Shared -> Prop)
  (turn : ∀ n s, I n s -> wpAny (model prog w) A (pyNext it) (fun r s₁ => match r with
   | none => R (.ok .next) s₁
   | some v => wpAny (model prog w) A (letOwnedTupleGo target it v) (fun _ s₁' => wpAny (model prog w) A (assign target env v) (fun _ s₂ =>
     wpAny (model prog w) A (forIn ifs true fun c r => if r = true then do let ok <- isTrue c env (eval c env); pure (ForInStep.yield ok) else pure (ForInStep.yield r)) (fun ok s₃ =>
      if ok = true then wpAny (model prog w) A (eval elt env) (fun x s₄ =>
       wpAny (model prog w) A (call (.builtin "list.append") [acc, x]) (fun _ s₅ => ∃ m, m < n /\ I m s₅) (notedBy (model prog w) A env fun e s' => R (.error e) s') s₄) (notedBy (model prog w) A env fun e s' => R (.error e) s') s₃
      else ∃ m, m < n /\ I m s₃) (notedBy (model prog w) A env fun e s' => R (.error e) s') s₂) (notedBy (model prog w) A env fun e s' => R (.error e) s') s₁') (notedBy (model prog w) A env fun e s' => R (.error e) s') s₁) (notedBy (model prog w) A env fun e s' => R (.error e) s') s)
  (n : Nat) (h : I n s) :
  codeAny (model prog w) A (.compLoop (.ListComp elt [⟨target, iter, ifs, 0⟩] scope pos) 0 it acc env) R s := by
 refine codeAny_loop rfl I (fun n s hI => ?_) n h
 show wpAny _ A ((compTurn (.ListComp elt [⟨target, iter, ifs, 0⟩] scope pos) 0 it acc env).onRaise (fun x => do noteFrame x env; theTreesLotGoes x)) _ _ s
 refine wpAny_noted ?_
 rw [compTurn_list]
 refine wpAny_bind (wpAny_standAt (wpAny_bind (wpAny_mono (turn n s hI) (fun r s₁ h₁ => ?_) fun _ _ h' => h')))
 cases r with
 | none => exact wpAny_pure h₁
 | some v =>
  refine wpAny_bind (wpAny_mono h₁ (fun _ s₁' h₁' => ?_) fun _ _ h' => h')
  refine wpAny_bind (wpAny_mono h₁' (fun _ s₂ h₂ => wpAny_bind (wpAny_mono h₂ (fun ok s₃ h₃ => ?_) fun _ _ h' => h')) fun _ _ h' => h')
  cases ok with
  | false => exact wpAny_pure ⟨rfl, h₃⟩
  | true =>
   exact wpAny_bind (wpAny_bind (wpAny_mono h₃ (fun x s₄ h₄ => wpAny_bind (wpAny_mono h₄ (fun _ s₅ h₅ => wpAny_pure (wpAny_pure ⟨rfl, h₅⟩)) fun _ _ h' => h')) fun _ _ h' => h'))
section
variable {X : Cx}
def tLc (wi : TI) (g : TG) (tt : TT) (te : TE) (vs : List Nat) : TE := fun σ H Q => wi σ H fun J H1 => ∀ D, H1 D = none -> ∃ W : Nat -> Nat -> Hp -> Prop, (∃ m, W 0 m (upd H1 D (.lst []))) /\ ∀ i m H, W i m H ->
 (J.stop i H /\ Q (.ref D) H) \/ (J.go i H /\ ∃ Nx : Hp -> Prop, (∀ H', Nx H' -> ∃ m', m' < m /\ W (i + 1) m' H') /\ ∀ x H', J.yld i H x H' -> g x (wipe σ vs) H' fun σ2 H2 => wipe σ2 vs = wipe σ vs /\ tt σ2 H2 fun b H3 =>
  if b = true then te σ2 H3 fun y H4 => ∃ acc, H4 D = some (.lst acc) /\ acc.length < sizeLine /\ Nx (upd H4 D (.lst (acc ++ [y]))) else Nx H3)
theorem lc_core {pins : List (Addr × Obj)} {s : Shared} {σ : St} {H : Hp} {Q : VK} {elt tg iter : Expr} {ifs : List Expr} {scope : Scope} {own : List (Str × Nat)} {pos pos' : Pos} {wi : TI} {g : TG} {tt : TT} {te : TE} {use : Option (Value -> Sem Unit)} {Qf : Value -> Shared -> Prop}
  (hc : X.calm = true) (hN : X.N.Nodup) (I : Inv X pins σ H s) (hi : PI X tg iter wi) (ok : BlkOk X.N X.env.scope scope own)
  (hg : ∀ (s : Shared) (H : Hp) (C : Addr) (cl : List (Str × Addr)) (fp : List Addr), PG (X.blk s H scope (compEnvC scope cl C X.env) fp) tg g) (ht : ∀ (s : Shared) (H : Hp) (C : Addr) (cl : List (Str × Addr)) (fp : List Addr), PTs (X.blk s H scope (compEnvC scope cl C X.env) fp) ifs tt)
  (he : ∀ (s : Shared) (H : Hp) (C : Addr) (cl : List (Str × Addr)) (fp : List Addr), PE (X.blk s H scope (compEnvC scope cl C X.env) fp) elt te) (hs : ∀ x, foldedSetIterable iter X.env x = pure x)
  (h : tLc wi g tt te (own.map (·.2)) σ H Q)
  (hRR : ∀ D C s' m H', Inv X pins σ H' s' -> Q (.ref D) H' -> s'.heap.Ns C m -> FpOk X pins H' C -> compPost (model X.prog X.w) X.A X.xe use Qf (.ref D) C (.ok .next) s') :
  wpAny (model X.prog X.w) X.A (comprehension (.ListComp elt [⟨tg, iter, ifs, 0⟩] scope pos) scope X.env pos' (newList []) false (eval iter X.env) use) Qf X.xe s := by
 have hfree : ∀ y ∈ scope.names, y.2 = .free -> ∃ c, X.env.cells.lookup y.1 = some c := fun y hy e => by
  rcases ok.free y hy e with k | k
  ·exact I.ok.has _ (.inl k)
  ·exact I.ok.has _ (.inr k)
 refine wpAny_comprehension_free (use := use) rfl hs (closure_ok hfree) ok.kind (fun y hy e => by rw [ok.uniq y hy, e])
  (thn (hi pins s σ H _ I h) fun xv s1 hx => thn hx fun itv s2 h2 => ?_)
 obtain ⟨it, fp, tn, J, H2, e, I2, T, st2, f2, q⟩ := h2
 subst e
 refine wpAny_newObj_type (newEnv_comp ?_) (by show 0 <= sizeLine; decide)
 generalize hD : s2.heap.objs.size = D
 have hDn : H2 D = none := I2.hok.fresh (Nat.le_of_eq hD)
 obtain ⟨W, ⟨m0, w0⟩, turn⟩ := q D hDn
 generalize hs3 : ({ s2 with heap := s2.heap.push { cls := .type "list", data := .seq ([] : List Value).toArray } } : Shared) = s3
 have I3 : Inv X pins σ (upd H2 D (.lst [])) s3 := by
  rw [<- hs3]
  refine I2.laid (t' := s2.toks) (fun b o e => Heap.get?_push_of_some _ e) (Nat.le_of_eq hD) ⟨Nat.zero_le _, [], 0, .nil, ?_⟩
  rw [<- hD]
  exact Heap.get?_push_size _ rfl
 have h3 : s3.heap = s2.heap.push { cls := .type "list", data := .seq ([] : List Value).toArray } := by rw [<- hs3]
 have sz : ∀ b ∈ fp, b < s2.heap.objs.size := fun b hb => by
  obtain ⟨o, e, _⟩ := T.obj _ _ st2 b hb
  exact Heap.lt_size e
 have f3 : ∀ b ∈ fp, FpOk X pins (upd H2 D (.lst [])) b /\ b < s3.heap.objs.size := fun b hb => by
  have hlt := sz b hb
  refine ⟨⟨?_, (f2 b hb).2⟩, by rw [h3, Heap.size_push]; exact Nat.lt_succ_of_lt hlt⟩
  rw [uN (by rw [<- hD]; exact Nat.ne_of_lt hlt)]
  exact (f2 b hb).1
 have st3 : tn 0 s3.heap := T.keep _ _ _ st2 fun b _ o e => by rw [h3]; exact Heap.get?_push_of_some _ e
 have I4 := block_start I3 ok hN f3
 have pg := hg s3 (upd H2 D (.lst [])) s3.heap.objs.size (cellsFrom (s3.heap.objs.size + 1) scope.names (cloFrom X.env.cells scope.names [])) fp
 have pt := ht s3 (upd H2 D (.lst [])) s3.heap.objs.size (cellsFrom (s3.heap.objs.size + 1) scope.names (cloFrom X.env.cells scope.names [])) fp
 have pe := he s3 (upd H2 D (.lst [])) s3.heap.objs.size (cellsFrom (s3.heap.objs.size + 1) scope.names (cloFrom X.env.cells scope.names [])) fp
 show codeAny _ _ (.compStart (.ListComp elt [⟨tg, iter, ifs, 0⟩] scope pos) 0 (.ref it) (.ref D) (compEnvC scope (cellsFrom (s3.heap.objs.size + 1) scope.names (cloFrom X.env.cells scope.names [])) s3.heap.objs.size X.env)) (compPost (model X.prog X.w) X.A X.xe use Qf (.ref D) s3.heap.objs.size) { s3 with heap := pushCells (s3.heap.push { cls := .type "dict", data := .dict #[] }) scope.names }
 have nfp : ∀ b ∈ fp, (upd H2 D (.lst [])) b = none := fun b hb => (f3 b hb).1.1
 generalize hce : compEnvC scope (cellsFrom (s3.heap.objs.size + 1) scope.names (cloFrom X.env.cells scope.names [])) s3.heap.objs.size X.env = ce at I4 pg pt pe ⊢
 have cL : ce.locals = s3.heap.objs.size := by subst hce; rfl
 generalize hH3 : upd H2 D (.lst []) = H3 at I3 I4 pg pt pe w0 nfp f3
 generalize hs4 : ({ s3 with heap := pushCells (s3.heap.push { cls := .type "dict", data := .dict #[] }) scope.names } : Shared) = s4 at I4 ⊢
 have st4 : tn 0 s4.heap := T.keep _ _ _ st3 fun b _ o e => by rw [<- hs4]; exact pushCells_keeps _ _ _ _ (Heap.get?_push_of_some _ e)
 have stat : ∀ {σ' : St} {H' : Hp} {s' : Shared}, Inv (X.blk s3 H3 scope ce fp) [] σ' H' s' -> (∀ b ∈ fp, H' b = none) -> ∀ b ∈ fp, FpOk (X.blk s3 H3 scope ce fp) [] H' b := fun {σ' H' s'} I' hn b hb =>
  ⟨hn b hb, (I'.ok.exf b hb).1, I'.ok.exfs b hb, .inl hb, fun x c e => (I'.ok.exf b hb).2 x c e, fun p hp => absurd (show p ∈ ([] : List (Addr × Obj)) ++ [] from hp) (by simp)⟩
 have loop : codeAny (model X.prog X.w) X.A (.compLoop (.ListComp elt [⟨tg, iter, ifs, 0⟩] scope pos) 0 (.ref it) (.ref D) ce) (compPost (model X.prog X.w) X.A X.xe use Qf (.ref D) s3.heap.objs.size) s4 := by
  refine compLoop_any (fun n s' => ∃ i H', Inv (X.blk s3 H3 scope ce fp) [] (wipe σ (own.map (·.2))) H' s' /\ tn i s'.heap /\ (∀ b ∈ fp, H' b = none) /\ W i n H') ?_ m0 ⟨0, H3, I4, st4, nfp, w0⟩
  rintro n s5 ⟨i, H5, I5, st5, n5, w5⟩
  rcases turn i n H5 w5 with ⟨stop, qq⟩ | ⟨go, Nx, hNx, step⟩
  ·have td := T.done (X.blk s3 H3 scope ce fp) rfl rfl rfl hc i [] s5 _ H5 (fun _ _ => False) I5 (stat I5 n5) st5 stop
   refine thnF td fun r s6 ⟨hr, I6⟩ => ?_
   subst hr
   have I7 : Inv X pins σ H5 s6 := I3.call' (ch := fp) I6.os I6.base I6.hok I6.bare fun b hb => ⟨(f3 b hb).1.2.2.2.1, (f3 b hb).1.2.1, (f3 b hb).1.2.2.2.2.1, (f3 b hb).1.2.2.2.2.2⟩
   have nC : H5 s3.heap.objs.size = none := by
    have z : H5 ce.locals = none := I6.free
    rw [cL] at z
    exact z
   obtain ⟨m, hn, _⟩ := I6.loc
   have hn : s6.heap.Ns ce.locals m := hn
   rw [cL] at hn
   exact hRR D s3.heap.objs.size s6 m H5 I7 qq hn (I3.fpOk (Nat.le_refl _) nC)
  ·have ti := T.item (X.blk s3 H3 scope ce fp) rfl rfl rfl hc i [] s5 _ H5 (fun _ _ => False) I5 (stat I5 n5) st5 go
   refine thnF ti fun r s6 ⟨u, hr, h6⟩ => ?_
   subst hr
   refine thnF h6 fun _ s7 ⟨x, H7, I7, r7, y7, st7, n7⟩ => ?_
   have I7' := I7.pinned (stat I7 n7) (T.obj _ _ st7)
   refine thnF (pg _ s7 _ H7 x u _ I7' r7 (step x H7 y7)) fun _ s8 ⟨σ8, H8, I8, hw8, q8⟩ => ?_
   refine thnF (pt _ s8 σ8 H8 _ I8 q8) fun b s9 ⟨H9, I9, q9⟩ => ?_
   have fin : ∀ {s' : Shared} {H' : Hp}, Inv (X.blk s3 H3 scope ce fp) ([] ++ pinsAt fp s7.heap) σ8 H' s' -> Nx H' -> ∃ m, m < n /\ ∃ i H', Inv (X.blk s3 H3 scope ce fp) [] (wipe σ (own.map (·.2))) H' s' /\ tn i s'.heap /\ (∀ b ∈ fp, H' b = none) /\ W i m H' := fun {s' H'} I' nx => by
    obtain ⟨m', hm, w'⟩ := hNx H' nx
    have pin' : ∀ b ∈ fp, ∀ o, s7.heap.get? b = some o -> s'.heap.get? b = some o /\ H' b = none := fun b hb o e =>
     let z := I'.pin (b, o) (List.mem_append_right _ (List.mem_append_right _ (mem_pinsAt hb e)))
     ⟨z.1, z.2.1⟩
    have hl : (wipe σ (own.map (·.2))).length = σ8.length := by rw [<- hw8, wipe_length]
    refine ⟨m', hm, i + 1, H', (I'.unpinned (pins := [])).weak hl (fun j v e => ?_), T.keep _ _ _ st7 fun b hb o e => (pin' b hb o e).1, fun b hb => ?_, w'⟩
    ·rw [<- hw8] at e
     exact (wipe_some e).1
    ·obtain ⟨o, e, _⟩ := T.obj _ _ st7 b hb
     exact (pin' b hb o e).2
   cases b with
   | false =>
    simp only [Bool.false_eq_true, if_false] at q9 ⊢
    exact fin I9 q9
   | true =>
    simp only [if_true] at q9 ⊢
    refine thnF (pe _ s9 σ8 H9 _ I9 q9) fun z s10 ⟨yv, H10, I10, r10, acc, hD10, hz10, nx⟩ => ?_
    exact app_ok (X := X.blk s3 H3 scope ce fp) I10 hD10 hz10 r10 fun s11 I11 => fin I11 nx
 exact codeAny_compStart_list loop (T.self X.A 0 _ _ _ st4 loop)
theorem pe_lc {elt tg iter : Expr} {ifs : List Expr} {scope : Scope} {own : List (Str × Nat)} {pos : Pos} {wi : TI} {g : TG} {tt : TT} {te : TE} (hc : X.calm = true) (hN : X.N.Nodup) (hi : PI X tg iter wi) (ok : BlkOk X.N X.env.scope scope own)
  (hg : ∀ (s : Shared) (H : Hp) (C : Addr) (cl : List (Str × Addr)) (fp : List Addr), PG (X.blk s H scope (compEnvC scope cl C X.env) fp) tg g) (ht : ∀ (s : Shared) (H : Hp) (C : Addr) (cl : List (Str × Addr)) (fp : List Addr), PTs (X.blk s H scope (compEnvC scope cl C X.env) fp) ifs tt)
  (he : ∀ (s : Shared) (H : Hp) (C : Addr) (cl : List (Str × Addr)) (fp : List Addr), PE (X.blk s H scope (compEnvC scope cl C X.env) fp) elt te) (hs : ∀ x, foldedSetIterable iter X.env x = pure x := by intro _; rfl) :
  PE X (.ListComp elt [⟨tg, iter, ifs, 0⟩] scope pos) (tLc wi g tt te (own.map (·.2))) := by
 intro pins s σ H Q I h
 rw [eval_ListComp]
 refine lc_core hc hN I hi ok hg ht he hs h fun D C s' m H' I' q hn f => ⟨m, hn, fun h'' sb => ?_⟩
 obtain ⟨f0, f1, f2, f3, f4, f5⟩ := f
 exact ⟨.ref D, H', I'.turned (t' := s'.toks) (fun b o hb e => (sb.2 b hb).trans e) f0 f1 f3 f4 f5, rfl, q⟩
theorem ps_setLc {i : Nat} {y : Str} {py : Pos} {elt tg iter : Expr} {ifs : List Expr} {scope : Scope} {own : List (Str × Nat)} {pos spos : Pos} {wi : TI} {g : TG} {tt : TT} {te : TE} (hc : X.calm = true) (hN : X.N.Nodup) (hy : X.N[i]? = some y) (hyl : X.env.scope.names.lookup y = some .local)
  (hsw : swapsWith (.ListComp elt [⟨tg, iter, ifs, 0⟩] scope pos) (some (.Name y py)) spos.line X.env = pure true) (hi : PI X tg iter wi) (ok : BlkOk X.N X.env.scope scope own)
  (hg : ∀ (s : Shared) (H : Hp) (C : Addr) (cl : List (Str × Addr)) (fp : List Addr), PG (X.blk s H scope (compEnvC scope cl C X.env) fp) tg g) (ht : ∀ (s : Shared) (H : Hp) (C : Addr) (cl : List (Str × Addr)) (fp : List Addr), PTs (X.blk s H scope (compEnvC scope cl C X.env) fp) ifs tt)
  (he : ∀ (s : Shared) (H : Hp) (C : Addr) (cl : List (Str × Addr)) (fp : List Addr), PE (X.blk s H scope (compEnvC scope cl C X.env) fp) elt te) (hs : ∀ x, foldedSetIterable iter X.env x = pure x := by intro _; rfl) :
  PS X (.Assign [.Name y py] (.ListComp elt [⟨tg, iter, ifs, 0⟩] scope pos) spos) (tAsg (tLc wi g tt te (own.map (·.2))) (gName i)) := by
 intro pins s σ H D I h
 rw [exec_Assign_Name_used _ _ _ _ hsw]
 refine wpAny_bind (wpAny_standAt (wpAny_bind ?_))
 show wpAny _ X.A (do let _ <- comprehension (.ListComp elt [⟨tg, iter, ifs, 0⟩] scope pos) scope X.env (firstIterPos [⟨tg, iter, ifs, 0⟩] pos) (newList []) false (eval iter X.env) (some (assign (.Name y py) X.env))) _ _ s
 have h : tLc wi g tt te (own.map (·.2)) σ H (fun x H1 => gName i x σ H1 D.nx) := h
 refine wpAny_bind (thn (lc_core (Qf := fun _ s' => SP X pins D .next s') hc hN I hi ok hg ht he hs h fun L C s' m H' I' q hn f => ?_) fun _ s' hq => wpAny_pure (wpAny_pure hq))
 show wpAny _ _ (assign (.Name y py) X.env (.ref L)) _ _ _
 refine wpAny_assign_Name (store_ok2 (v := V.ref L) I' hN hy (.inl hyl) rfl (fun s2 I2 ⟨a, sb, ha⟩ => ?_) (.inr hyl))
 obtain ⟨f0, f1, f2, f3, f4, f5⟩ := f
 have haC : C ≠ a := by
  rcases ha with z | z
  ·rw [z]; exact f1
  ·exact fun e => f4 y a z e.symm
 refine ⟨m, hn.sameBut sb haC, fun h3 sb3 => ?_⟩
 exact ⟨_, H', I2.turned (t' := s2.toks) (fun b o hb e => (sb3.2 b hb).trans e) f0 f1 f3 f4 f5, q⟩
theorem sw_true {elt : Expr} {gs : List Comprehension} {scope : Scope} {pos py : Pos} {y : Str} {l : Nat} {env : Env} (hk : env.scope.kind = .function) (hy : env.scope.names.lookup y = some .local) (hl : (py.line == pos.line) = true)
  (ha : (scope.names.any fun (n, k) => n == y && (k == .local || k == .cell)) = false) : swapsWith (.ListComp elt gs scope pos) (some (.Name y py)) l env = pure true := by
 have ky : env.kindOf y = some .local := hy
 have hb : env.blockKind = .function := by unfold Env.blockKind; rw [hk]; rfl
 unfold swapsWith
 simp only [hb, ky, ha, Expr.pos, hl]
 rfl
end
theorem lc_list {K : PySem.W.Frag} {a : Addr} {xs : List V} {g : TG} {tt : TT} {te : TE} {vs : List Nat} {σ : St} {H1 : Hp} {D : Addr} {Qd : Hp -> Prop} (Pv : Nat -> Hp -> Prop) (h0 : Pv 0 (upd H1 D (.lst []))) (hl : ∀ i H, i <= xs.length -> Pv i H -> SqL K H a xs)
  (hs : ∀ i x H, xs[i]? = some x -> Pv i H -> g x (wipe σ vs) H fun σ2 H2 => wipe σ2 vs = wipe σ vs /\ tt σ2 H2 fun b H3 =>
   if b = true then te σ2 H3 fun y H4 => ∃ acc, H4 D = some (.lst acc) /\ acc.length < sizeLine /\ Pv (i + 1) (upd H4 D (.lst (acc ++ [y]))) else Pv (i + 1) H3) (hd : ∀ H, Pv xs.length H -> Qd H) :
  ∃ W : Nat -> Nat -> Hp -> Prop, (∃ m, W 0 m (upd H1 D (.lst []))) /\ ∀ i m H, W i m H ->
   ((Itl K a).stop i H /\ Qd H) \/ ((Itl K a).go i H /\ ∃ Nx : Hp -> Prop, (∀ H', Nx H' -> ∃ m', m' < m /\ W (i + 1) m' H') /\ ∀ x H', (Itl K a).yld i H x H' -> g x (wipe σ vs) H' fun σ2 H2 => wipe σ2 vs = wipe σ vs /\ tt σ2 H2 fun b H3 =>
    if b = true then te σ2 H3 fun y H4 => ∃ acc, H4 D = some (.lst acc) /\ acc.length < sizeLine /\ Nx (upd H4 D (.lst (acc ++ [y]))) else Nx H3) := by
 refine ⟨fun i m H => m = xs.length - i /\ i <= xs.length /\ Pv i H, ⟨xs.length, by simp, Nat.zero_le _, h0⟩, ?_⟩
 rintro i m H ⟨rfl, hi, p⟩
 have q := hl i H hi p
 by_cases hlt : i < xs.length
 ·refine .inr ⟨⟨xs, xs[i], q, by simp [hlt]⟩, Pv (i + 1), fun H' p' => ⟨xs.length - (i + 1), by omega, rfl, hlt, p'⟩, fun x H' y => ?_⟩
  obtain ⟨e, y⟩ := y
  subst e
  exact hs i x _ (y xs q) p
 ·have e : i = xs.length := by omega
  subst e
  exact .inl ⟨⟨xs, q, Nat.le_refl _⟩, hd H p⟩
def blkC (N : List Str) (sc scope : Scope) (own : List (Str × Nat)) : Bool :=
 (match scope.kind with | .function => true | _ => false) && (scope.names.all fun y => decide (scope.names.lookup y.1 = some y.2)) && (own.all fun p => decide (N[p.2]? = some p.1)) &&
  (scope.names.all fun y => match y.2 with
   | .free => (match sc.names.lookup y.1 with | some .cell => true | some .free => true | _ => false)
   | .local => decide (y.1 ∈ own.map (·.1)) || decide (y.1 ∉ N)
   | .cell => decide (y.1 ∈ own.map (·.1)) || decide (y.1 ∉ N)
   | _ => true)
theorem blkOk_by {N : List Str} {sc scope : Scope} {own : List (Str × Nat)} (h : blkC N sc scope own = true) : BlkOk N sc scope own := by
 unfold blkC at h
 simp only [Bool.and_eq_true, List.all_eq_true, decide_eq_true_eq] at h
 obtain ⟨⟨⟨h1, h2⟩, h3⟩, h4⟩ := h
 refine ⟨?_, h2, h3, fun y hy e => ?_, fun y hy e => ?_⟩
 ·split at h1
  ·assumption
  ·cases h1
 ·have q := h4 y hy
  simp only [e] at q
  split at q <;> first | exact .inl (by assumption) | exact .inr (by assumption) | cases q
 ·have q := h4 y hy
  rcases e with e | e <;> (simp only [e, Bool.or_eq_true, decide_eq_true_eq] at q; exact q)
end L2
namespace L2
open PySem PySem.Spec PyProof.Rows
end L2
namespace L2
open PySem PySem.Spec PyProof.Rows
section
variable {κ : Type} [DecidableEq κ]
def valV (kvs : List (κ × V)) (k : κ) : Option V := (kvs.find? fun kv => decide (kv.1 = k)).map (·.2)
def putK (kvs : List (κ × V)) (k : κ) (v : V) : List (κ × V) :=
 if (kvs.any fun kv => decide (kv.1 = k)) = true then kvs.map (fun kv => if kv.1 = k then (kv.1, v) else kv) else kvs ++ [(k, v)]
theorem valV_pos {p : κ × V} {r : List (κ × V)} {k : κ} (e : p.1 = k) : valV (p :: r) k = some p.2 := by simp [valV, List.find?_cons, e]
theorem valV_neg {p : κ × V} {r : List (κ × V)} {k : κ} (e : ¬ p.1 = k) : valV (p :: r) k = valV r k := by simp [valV, List.find?_cons, e]
theorem valV_any (k : κ) : ∀ kvs : List (κ × V), (kvs.any fun kv => decide (kv.1 = k)) = (valV kvs k).isSome
 | [] => rfl
 | p :: r => by
  rw [List.any_cons]
  by_cases e : p.1 = k
  ·simp only [valV_pos e, decide_eq_true e, Bool.true_or, Option.isSome_some]
  ·rw [valV_neg e, decide_eq_false e, Bool.false_or]; exact valV_any k r
theorem valV_map (k j : κ) (y : V) : ∀ kvs : List (κ × V), valV (kvs.map fun kv => if kv.1 = k then (kv.1, y) else kv) j = (valV kvs j).map fun x => if j = k then y else x
 | [] => rfl
 | p :: r => by
  have ih := valV_map k j y r
  rw [List.map_cons]
  by_cases h : p.1 = k
  ·rw [if_pos h]
   by_cases e : p.1 = j
   ·rw [valV_pos (p := (p.1, y)) e, valV_pos e, Option.map_some, if_pos (e.symm.trans h)]
   ·rw [valV_neg (p := (p.1, y)) e, valV_neg e, ih]
  ·rw [if_neg h]
   by_cases e : p.1 = j
   ·rw [valV_pos (p := p) e, valV_pos e, Option.map_some, if_neg (fun z => h (e.trans z))]
   ·rw [valV_neg (p := p) e, valV_neg e, ih]
theorem valV_snoc (k j : κ) (y : V) : ∀ kvs : List (κ × V), valV kvs k = none -> valV (kvs ++ [(k, y)]) j = if j = k then some y else valV kvs j
 | [], _ => by
  by_cases e : k = j
  ·rw [if_pos e.symm]; exact valV_pos (p := (k, y)) e
  ·rw [if_neg (fun z => e z.symm)]; exact valV_neg (p := (k, y)) e
 | p :: r, hn => by
  rw [List.cons_append]
  have hk : ¬ p.1 = k := fun z => by rw [valV_pos z] at hn; cases hn
  rw [valV_neg hk] at hn
  have ih := valV_snoc k j y r hn
  by_cases e : p.1 = j
  ·rw [valV_pos e, valV_pos e, if_neg (fun z => hk (e.trans z))]
  ·rw [valV_neg e, valV_neg e, ih]
theorem valV_put (kvs : List (κ × V)) (k j : κ) (y : V) : valV (putK kvs k y) j = if j = k then some y else valV kvs j := by
 unfold putK
 by_cases a : (kvs.any fun kv => decide (kv.1 = k)) = true
 ·rw [if_pos a, valV_map]
  rw [valV_any] at a
  by_cases e : j = k
  ·obtain ⟨x, hx⟩ := Option.isSome_iff_exists.mp a
   rw [if_pos e, e, hx, Option.map_some, if_pos rfl]
  ·rw [if_neg e]
   cases valV kvs j with
   | none => rfl
   | some x => rw [Option.map_some, if_neg e]
 ·rw [if_neg a]
  refine valV_snoc k j y kvs ?_
  rw [valV_any] at a
  cases q : valV kvs k with
  | none => rfl
  | some x => rw [q] at a; exact (a rfl).elim
theorem length_putK (kvs : List (κ × V)) (k : κ) (v : V) : (putK kvs k v).length <= kvs.length + 1 := by
 unfold putK
 split
 ·rw [List.length_map]; omega
 ·rw [List.length_append, List.length_cons, List.length_nil]; omega
theorem putK_new {kvs : List (κ × V)} {k : κ} (v : V) (h : valV kvs k = none) : putK kvs k v = kvs ++ [(k, v)] := by
 unfold putK
 rw [valV_any, h]
 exact if_neg (by decide)
theorem RelO.isSome_eq {o : Option V} {u : Option Value} (r : RelO o u) : o.isSome = u.isSome := by
 cases o with
 | none => cases u with
  | none => rfl
  | some _ => exact (show False from r).elim
 | some _ => cases u with
  | none => exact (show False from r).elim
  | some _ => rfl
theorem KV.val {kvs : List (κ × V)} {vs : List (κ × Value)} (r : KV kvs vs) (k : κ) : RelO (valV kvs k) (valueAt vs k) := by
 unfold KV at r
 induction r with
 | nil => exact True.intro
 | @cons p q ps qs h t ih =>
  obtain ⟨h1, h2⟩ := h
  by_cases e : p.1 = k
  ·have e' : q.1 = k := h1.symm.trans e
   have b : valueAt (q :: qs) k = some q.2 := by simp [valueAt, List.find?_cons, e']
   rw [valV_pos e, b]; exact h2
  ·have e' : ¬ q.1 = k := fun z => e (h1.trans z)
   have b : valueAt (q :: qs) k = valueAt qs k := by simp [valueAt, List.find?_cons, e']
   rw [valV_neg e, b]; exact ih
theorem KV.any {kvs : List (κ × V)} {vs : List (κ × Value)} (r : KV kvs vs) (k : κ) : (kvs.any fun kv => decide (kv.1 = k)) = vs.any fun kv => decide (kv.1 = k) := by
 unfold KV at r
 induction r with
 | nil => rfl
 | cons h t ih => rw [List.any_cons, List.any_cons, ih, h.1]
theorem KV.repl {kvs : List (κ × V)} {vs : List (κ × Value)} (r : KV kvs vs) (k : κ) {y : V} {u : Value} (ry : RelV y u) :
  KV (kvs.map fun kv => if kv.1 = k then (kv.1, y) else kv) (vs.map fun kv => if kv.1 = k then (kv.1, u) else kv) := by
 unfold KV at r ⊢
 induction r with
 | nil => exact .nil
 | @cons p q ps qs h t ih =>
  rw [List.map_cons, List.map_cons]
  refine .cons ?_ ih
  obtain ⟨h1, h2⟩ := h
  by_cases e : p.1 = k
  ·rw [if_pos e, if_pos (h1.symm.trans e)]; exact ⟨h1, ry⟩
  ·rw [if_neg e, if_neg (fun z => e (h1.trans z))]; exact ⟨h1, h2⟩
theorem KV.put {kvs : List (κ × V)} {vs : List (κ × Value)} (r : KV kvs vs) (k : κ) {y : V} {u : Value} (ry : RelV y u) : KV (putK kvs k y) (stored vs k u) := by
 unfold putK stored
 rw [r.any k]
 by_cases e : (vs.any fun kv => decide (kv.1 = k)) = true
 ·rw [if_pos e, if_pos e]; exact r.repl k ry
 ·rw [if_neg e, if_neg e]; exact Paired.snoc r ⟨rfl, ry⟩
theorem KV.length {kvs : List (κ × V)} {vs : List (κ × Value)} (r : KV kvs vs) : kvs.length = vs.length := Paired.length r
end
theorem kV_is {P : Program} {w : World} {k : Key} {u : Value} (r : RelV (kV k) u) : (mixKind P w).is k u = true := by
 cases k with
 | inl i => obtain ⟨t, e⟩ := (show ∃ t, u = Value.int i t from r); subst e; exact mixKind_int P w i t
 | inr x => obtain ⟨t, e⟩ := (show ∃ t, u = Value.str x t from r); subst e; exact mixKind_str P w x t
theorem items_are {P : Program} {w : World} : ∀ {ks : List Key} {us : List Value}, Vals (ks.map kV) us -> ItemsAre (mixKind P w) ks us
 | [], _, r => by rw [List.map_nil] at r; cases r; exact .nil
 | k :: ks, _, r => by
  rw [List.map_cons] at r
  cases r with
  | cons h t => exact .cons (kV_is h) (items_are t)
abbrev KT (H : Hp) : List (List Key × V) -> List (List Key × Addr × Value) -> Prop := Paired fun p q => p.1 = q.1 /\ H q.2.1 = some (.tup (p.1.map kV)) /\ RelV p.2 q.2.2
theorem KT.val {H : Hp} {kvs : List (List Key × V)} {xs : List (List Key × Addr × Value)} (r : KT H kvs xs) (k : List Key) : RelO (valV kvs k) ((atKey xs k).map (·.2)) := by
 induction r with
 | nil => exact True.intro
 | @cons p q ps qs h t ih =>
  obtain ⟨h1, _, h2⟩ := h
  by_cases e : p.1 = k
  ·have e' : q.1 = k := h1.symm.trans e
   have b : atKey (q :: qs) k = some q.2 := by simp [atKey, List.find?_cons, e']
   rw [valV_pos e, b]; exact h2
  ·have e' : ¬ q.1 = k := fun z => e (h1.trans z)
   have b : atKey (q :: qs) k = atKey qs k := by simp [atKey, List.find?_cons, e']
   rw [valV_neg e, b]; exact ih
theorem KT.repl {H : Hp} {kvs : List (List Key × V)} {xs : List (List Key × Addr × Value)} (r : KT H kvs xs) (k : List Key) {y : V} {u : Value} (ry : RelV y u) :
  KT H (kvs.map fun kv => if kv.1 = k then (kv.1, y) else kv) (xs.map (putAt k u)) := by
 induction r with
 | nil => exact .nil
 | @cons p q ps qs h t ih =>
  rw [List.map_cons, List.map_cons]
  refine .cons ?_ ih
  obtain ⟨h1, h2, h3⟩ := h
  unfold putAt
  by_cases e : p.1 = k
  ·rw [if_pos e, if_pos (h1.symm.trans e)]; exact ⟨h1, h2, ry⟩
  ·rw [if_neg e, if_neg (fun z => e (h1.trans z))]; exact ⟨h1, h2, h3⟩
theorem KT.put {H : Hp} {kvs : List (List Key × V)} {xs : List (List Key × Addr × Value)} (r : KT H kvs xs) (k : List Key) {b : Addr} {y : V} {u : Value} (hb : H b = some (.tup (k.map kV))) (ry : RelV y u) :
  KT H (putK kvs k y) (storedH xs k b u) := by
 have e : (kvs.any fun kv => decide (kv.1 = k)) = (atKey xs k).isSome := by
  rw [valV_any, (r.val k).isSome_eq, Option.isSome_map]
 unfold putK storedH
 rw [e]
 by_cases q : (atKey xs k).isSome = true
 ·rw [if_pos q, if_pos q]; exact r.repl k ry
 ·rw [if_neg q, if_neg q]; exact Paired.snoc r ⟨rfl, hb, ry⟩
theorem KT.keeps {H H' : Hp} {kvs : List (List Key × V)} {xs : List (List Key × Addr × Value)} (r : KT H kvs xs) (ht : ∀ b ys, H b = some (.tup ys) -> H' b = some (.tup ys)) : KT H' kvs xs :=
 Paired.mapP r fun _ _ z => ⟨z.1, ht _ _ z.2.1, z.2.2⟩
section
variable {P : Program} {w : World} {H : Hp} {h : Heap} {a : Addr}
theorem rd_of {u : HO} (ok : HOk P w H h) (e : Rd H a u) : ObjOk P w H h a u := e.ok ok
theorem dk_rd {kvs : List (Key × V)} (ok : HOk P w H h) (e : Rd H a (.dK kvs)) : kvs.length <= sizeLine /\ (a == sysModules) = false /\ ∃ vs, KV kvs vs /\ h.DictOf (mixKind P w) a vs :=
 show ObjOk P w H h a (.dK kvs) from rd_of ok e
theorem dk_of {kvs : List (Key × V)} (ok : HOk P w H h) (e : H a = some (.dK kvs)) : kvs.length <= sizeLine /\ (a == sysModules) = false /\ ∃ vs, KV kvs vs /\ h.DictOf (mixKind P w) a vs := dk_rd ok (.inl e)
theorem key_of {ks : List Key} (ok : HOk P w H h) (e : H a = some (.tup (ks.map kV))) : (tupleKind (mixKind P w)).is h ks a := by
 obtain ⟨_, its, r, o, h1, h2, n, h3⟩ := (show ObjOk P w H h a (.tup (ks.map kV)) from ok a _ e)
 exact ⟨o, its.toArray, n, h1, h2, h3, by simpa using items_are r⟩
theorem dt_rd {kvs : List (List Key × V)} (ok : HOk P w H h) (e : Rd H a (.dT kvs)) : kvs.length <= sizeLine /\ (a == sysModules) = false /\
  ∃ xs, KT H kvs xs /\ h.DictOfH (tupleKind (mixKind P w)) a xs := by
 obtain ⟨z, y, xs, r, o, es, ep, h1, h2, h3, h4, h5⟩ := (show ObjOk P w H h a (.dT kvs) from rd_of ok e)
 refine ⟨z, y, xs, r, o, es, ep, h1, h2, h3, h4, fun x hx => ?_, h5⟩
 have all : ∀ {l : List (List Key × V)} {m : List (List Key × Addr × Value)}, KT H l m -> ∀ x ∈ m, (tupleKind (mixKind P w)).is h x.1 x.2.1 := by
  intro l m q
  induction q with
  | nil => intro x hx; exact nomatch hx
  | @cons p q ps qs hq t ih =>
   intro x hx
   rcases List.mem_cons.mp hx with e | hx
   ·subst e
    exact key_of ok (by rw [<- hq.1]; exact hq.2.1)
   ·exact ih x hx
 exact all r x hx
theorem dt_of {kvs : List (List Key × V)} (ok : HOk P w H h) (e : H a = some (.dT kvs)) : kvs.length <= sizeLine /\ (a == sysModules) = false /\
  ∃ xs, KT H kvs xs /\ h.DictOfH (tupleKind (mixKind P w)) a xs := dt_rd ok (.inl e)
end
def DGet (H : Hp) (a : Addr) (y : V) (r : Option V) : Prop :=
 (∃ kvs k, Rd H a (.dK kvs) /\ y = kV k /\ r = valV kvs k) \/ ∃ kvs k b, Rd H a (.dT kvs) /\ y = .ref b /\ H b = some (.tup (k.map kV)) /\ r = valV kvs k
def DPut (H : Hp) (a : Addr) (y v : V) (H' : Hp) : Prop :=
 (∃ kvs k, H a = some (.dK kvs) /\ y = kV k /\ kvs.length < sizeLine /\ H' = upd H a (.dK (putK kvs k v))) \/
 ∃ kvs k b, H a = some (.dT kvs) /\ y = .ref b /\ H b = some (.tup (k.map kV)) /\ kvs.length < sizeLine /\ H' = upd H a (.dT (putK kvs k v))
theorem DGet.k {H : Hp} {a : Addr} {kvs : List (Key × V)} {k : Key} (e : H a = some (.dK kvs)) : DGet H a (kV k) (valV kvs k) := .inl ⟨kvs, k, .inl e, rfl, rfl⟩
theorem DPut.k {H : Hp} {a : Addr} {kvs : List (Key × V)} {k : Key} {v : V} (e : H a = some (.dK kvs)) (hl : kvs.length < sizeLine) : DPut H a (kV k) v (upd H a (.dK (putK kvs k v))) := .inl ⟨kvs, k, e, rfl, hl, rfl⟩
section
variable {X : Cx} {pins : List (Addr × Obj)} {σ : St} {H : Hp} {s : Shared} {a : Addr} {y v : V} {u r : Value} {o : Option V} {A : Around} {E : Value -> Shared -> Prop}
theorem Inv.big (I : Inv X pins σ H s) : sysModules < s.heap.objs.size := by
 have h : mainGlobals < s.heap.objs.size := (I.mod.glob.keeps I.bk).lt
 exact Nat.lt_trans (by decide) h
theorem d_getItem {Q : Value -> Shared -> Prop} (hu : A.units + 1 < cLine) (I : Inv X pins σ H s) (g : DGet H a y (some v)) (ry : RelV y u) (h : ∀ w' s', Inv X pins σ H s' -> RelV v w' -> Q w' s') :
  wpAny (model X.prog X.w) A (getItem (.ref a) u) Q E s := by
 rcases g with ⟨kvs, k, e, ey, l⟩ | ⟨kvs, k, b, e, ey, eb, l⟩
 ·subst ey
  obtain ⟨z, hd, vs, rel, dd⟩ := dk_rd I.hok e
  obtain ⟨w', hw, rw'⟩ := RelO.some_of (v := v) (o := valueAt vs k) (by rw [l]; exact rel.val k)
  exact wpAny_getItem_of (kV_is ry) dd.mapOf hw (h w' _ (I.tok _) rw')
 ·subst ey
  cases (show u = Value.ref b from ry)
  obtain ⟨z, hd, xs, rel, dd⟩ := dt_rd I.hok e
  obtain ⟨w', hw, rw'⟩ := RelO.some_of (v := v) (o := (atKey xs k).map (·.2)) (by rw [l]; exact rel.val k)
  obtain ⟨p, hp, hp2⟩ := Option.map_eq_some_iff.mp hw
  refine wpAny_getItem_heap (tupleKind_room_in1 hu) (key_of I.hok eb) dd hp ?_
  rw [hp2]
  exact h w' _ (I.tok _) rw'
theorem d_in {Q : Value -> Shared -> Prop} (hu : A.units + 1 < cLine) (I : Inv X pins σ H s) (g : DGet H a y o) (ry : RelV y u) (h : ∀ s', Inv X pins σ H s' -> Q (.bool o.isSome) s') :
  wpAny (model X.prog X.w) A (compareOp .In u (.ref a)) Q E s := by
 rcases g with ⟨kvs, k, e, ey, l⟩ | ⟨kvs, k, b, e, ey, eb, l⟩
 ·subst ey
  obtain ⟨z, hd, vs, rel, dd⟩ := dk_rd I.hok e
  refine wpAny_in_of (kV_is ry) hd dd.mapOf ?_
  rw [<- (rel.val k).isSome_eq, <- l]
  exact h _ (I.tok _)
 ·subst ey
  cases (show u = Value.ref b from ry)
  obtain ⟨z, hd, xs, rel, dd⟩ := dt_rd I.hok e
  refine wpAny_in_heap (tupleKind_room_in1 hu) (key_of I.hok eb) hd dd ?_
  have q := (rel.val k).isSome_eq
  rw [Option.isSome_map] at q
  rw [<- q, <- l]
  exact h _ (I.tok _)
theorem d_notIn {Q : Value -> Shared -> Prop} (hu : A.units + 1 < cLine) (I : Inv X pins σ H s) (g : DGet H a y o) (ry : RelV y u) (h : ∀ s', Inv X pins σ H s' -> Q (.bool (!o.isSome)) s') :
  wpAny (model X.prog X.w) A (compareOp .NotIn u (.ref a)) Q E s := by
 rcases g with ⟨kvs, k, e, ey, l⟩ | ⟨kvs, k, b, e, ey, eb, l⟩
 ·subst ey
  obtain ⟨z, hd, vs, rel, dd⟩ := dk_rd I.hok e
  refine wpAny_notIn_of (kV_is ry) hd dd.mapOf ?_
  rw [<- (rel.val k).isSome_eq, <- l]
  exact h _ (I.tok _)
 ·subst ey
  cases (show u = Value.ref b from ry)
  obtain ⟨z, hd, xs, rel, dd⟩ := dt_rd I.hok e
  refine wpAny_notIn_heap (tupleKind_room_in1 hu) (key_of I.hok eb) hd dd ?_
  have q := (rel.val k).isSome_eq
  rw [Option.isSome_map] at q
  rw [<- q, <- l]
  exact h _ (I.tok _)
theorem d_write {h' : Heap} {t' : Nat} {ob : HO} (I : Inv X pins σ H s) (mu : Mut (H a)) (hs : Heap.SameBut a s.heap h') (he : ∃ q, h'.get? a = some q) (new : ObjOk X.prog X.w (upd H a ob) h' a ob) :
  Inv X pins σ (upd H a ob) { s with heap := h', toks := t' } :=
 I.write (x := a) (e := a) mu (.inl rfl) (fun b q hb z => (hs.2 b hb).trans z) he new
theorem dk_new {P : Program} {w : World} {H' : Hp} {h' : Heap} {kvs : List (Key × V)} {vs : List (Key × Value)} (z : kvs.length <= sizeLine) (hd : (a == sysModules) = false) (rel : KV kvs vs) (dd : h'.DictOf (mixKind P w) a vs) :
  ObjOk P w H' h' a (.dK kvs) := ⟨z, hd, vs, rel, dd⟩
theorem d_setItem {H' : Hp} {Q : Unit -> Shared -> Prop} (hu : A.units + 1 < cLine) (I : Inv X pins σ H s) (g : DPut H a y v H') (ry : RelV y u) (rv : RelV v r) (h : ∀ s', Inv X pins σ H' s' -> Q () s') :
  wpAny (model X.prog X.w) A (setItem (.ref a) u r) Q E s := by
 rcases g with ⟨kvs, k, e, ey, l, eH⟩ | ⟨kvs, k, b, e, ey, eb, l, eH⟩
 ·subst ey eH
  obtain ⟨z, hd, vs, rel, dd⟩ := dk_of I.hok e
  have hz : vs.length <= sizeLine := by rw [<- rel.length]; exact z
  have hl : (putK kvs k v).length <= sizeLine := by have := length_putK kvs k v; omega
  refine wpAny_setItem_pairs (hsz := hz) (kV_is ry) dd fun h' dd' hs => h _ ?_
  have he : ∃ q, h'.get? a = some q := let ⟨q, _, _, hq, _⟩ := dd'; ⟨q, hq⟩
  exact d_write I (by rw [e]; exact True.intro) hs he (dk_new hl hd (rel.put k rv) dd')
 ·subst ey eH
  cases (show u = Value.ref b from ry)
  obtain ⟨z, hd, xs, rel, dd⟩ := dt_of I.hok e
  have hz : xs.length <= sizeLine := by rw [<- Paired.length rel]; exact z
  have hl : (putK kvs k v).length <= sizeLine := by have := length_putK kvs k v; omega
  refine wpAny_setItem_heap (hsz := hz) (tupleKind_room_in1 hu) (key_of I.hok eb) dd fun h' dd' hs => h _ ?_
  obtain ⟨q, es, ep, hq, h2, h3, h4, _, h5⟩ := dd'
  refine d_write I (by rw [e]; exact True.intro) hs ⟨q, hq⟩ ⟨hl, hd, _, (rel.put k eb rv).keeps fun c ys ec => ?_, q, es, ep, hq, h2, h3, h4, h5⟩
  rw [uN (ne_of ec e (fun z => nomatch z))]
  exact ec
end
section
variable {X : Cx} {pins : List (Addr × Obj)} {σ : St} {H : Hp} {s : Shared} {a : Addr} {kvs : List (Key × V)} {k : Key} {u : Value} {A : Around} {E : Value -> Shared -> Prop}
theorem d_len {Q : Value -> Shared -> Prop} (I : Inv X pins σ H s) (e : Rd H a (.dK kvs)) (h : ∀ t s', Inv X pins σ H s' -> Q (.int kvs.length t) s') : wpAny (model X.prog X.w) A (call (.builtin "len") [.ref a]) Q E s := by
 obtain ⟨z, hd, vs, rel, dd⟩ := dk_rd I.hok e
 refine call_len_dict hd dd (by rw [<- rel.length]; rw [sizeLine_eq] at z; omega) ?_
 rw [<- rel.length]
 exact h _ _ (I.tok _)
end
def NoSl (i : Expr) : Prop := ∀ ov iv, subscripted i false ov iv = operate [ov, iv] (getItem ov iv)
theorem subD_of {prog : Program} {w : World} {A : Around} {E : Value -> Shared -> Prop} {s : Shared} {env : Env} {value slice : Expr} {pos : Pos} {T id : String} {Q : Value -> Shared -> Prop}
  (hl : typeLookup (.type T) "__getitem__" = pure (some (.builtin id))) (hs : NoSl slice)
  (h : wpAny (model prog w) A (eval value env) (fun o s₁ => wpAny (model prog w) A (eval slice env) (fun i s₂ => s₂.TypeIs o T /\ wpAny (model prog w) A (getItem o i) Q E s₂) E s₁) E s) :
  wpAny (model prog w) A (eval (.Subscript value slice pos) env) Q E s := by
 refine Subscript_ (wpAny_mono h (fun o s₁ h₁ => wpAny_mono h₁ (fun i s₂ h₂ => ?_) fun _ _ x => x) fun _ _ x => x)
 obtain ⟨hT, h₂⟩ := h₂
 unfold subscriptTail
 refine wpAny_bind ?_
 rw [getitemInPython_of_ne hT.not_modules]
 refine wpAny_bind (wpAny_specialOf hT hl ?_)
 have fin : wpAny (model prog w) A (subscripted slice false o i) (fun r s₃ => wpAny (model prog w) A (letTemporaryGo value o r >>= fun _ => pure r) Q E s₃) E s₂ := by
  rw [hs o i]
  exact wpAny_operating (wpAny_mono h₂ (fun r s₃ h₃ => wpAny_bind (wpAny_letTemporaryGo (wpAny_pure h₃))) fun _ _ x => x)
 first
  | exact wpAny_pure (wpAny_bind fin)
  | exact wpAny_bind (wpAny_pure (wpAny_bind fin))
  | exact wpAny_bind fin
theorem dict_typeIs {X : Cx} {pins : List (Addr × Obj)} {σ : St} {H : Hp} {s : Shared} {a : Addr} {y : V} {o : Option V} (I : Inv X pins σ H s) (g : DGet H a y o) : s.TypeIs (.ref a) "dict" := by
 rcases g with ⟨kvs, k, e, _, _⟩ | ⟨kvs, k, b, e, _, _, _⟩
 ·obtain ⟨_, _, vs, _, dd⟩ := dk_rd I.hok e
  exact dd.typeIs
 ·obtain ⟨_, _, xs, _, dd⟩ := dt_rd I.hok e
  exact dd.typeIs
def tDGet (td ty : TE) : TE := fun σ H Q => td σ H fun x H1 => ty σ H1 fun y H2 => ∃ a v, x = .ref a /\ DGet H2 a y (some v) /\ Q v H2
def tDIn (ty td : TE) : TE := fun σ H Q => ty σ H fun y H1 => td σ H1 fun x H2 => ∃ a o, x = .ref a /\ DGet H2 a y o /\ Q (.bl o.isSome) H2
def tDNotIn (ty td : TE) : TE := fun σ H Q => ty σ H fun y H1 => td σ H1 fun x H2 => ∃ a o, x = .ref a /\ DGet H2 a y o /\ Q (.bl (!o.isSome)) H2
def sDPut (td ty tv : TE) : TS := fun D σ H => tv σ H fun v H1 => td σ H1 fun x H2 => ty σ H2 fun y H3 => ∃ a H4, x = .ref a /\ DPut H3 a y v H4 /\ D.nx σ H4
section
variable {X : Cx} {o i e value : Expr} {pos pos' tpos : Pos} {td ty tv : TE}
theorem pe_dget (hu : X.A.units + 1 < cLine) (ho : PE X o td) (hi : PE X i ty) (hs : NoSl i) : PE X (.Subscript o i pos) (tDGet td ty) := by
 intro pins s σ H Q I h
 refine subD_of PySem.F.slot_dict_getitem.lookup hs (thn (ho pins s σ H _ I h) fun u s1 ⟨x, H1, I1, rx, q1⟩ => thn (hi pins s1 σ H1 _ I1 q1) fun iv s2 ⟨y, H2, I2, ry, a, v, ex, g, q2⟩ => ?_)
 subst ex
 obtain rfl : u = Value.ref a := rx
 exact ⟨dict_typeIs I2 g, d_getItem hu I2 g ry fun w' s3 I3 rw' => ⟨v, H2, I3, rw', q2⟩⟩
theorem pc_din (hu : X.A.units + 1 < cLine) (hi : PE X i ty) (ho : PE X o td) : PC X .In i o (tDIn ty td) := by
 intro pins s σ H Q I h
 refine thn (hi pins s σ H _ I h) fun iv s1 ⟨y, H1, I1, ry, q1⟩ => thn (ho pins s1 σ H1 _ I1 q1) fun u s2 ⟨x, H2, I2, rx, a, ov, ex, g, q2⟩ => ?_
 subst ex
 obtain rfl : u = Value.ref a := rx
 exact d_in hu I2 g ry fun s3 I3 => ⟨.bl ov.isSome, H2, I3, rfl, q2⟩
theorem pc_dnotin (hu : X.A.units + 1 < cLine) (hi : PE X i ty) (ho : PE X o td) : PC X .NotIn i o (tDNotIn ty td) := by
 intro pins s σ H Q I h
 refine thn (hi pins s σ H _ I h) fun iv s1 ⟨y, H1, I1, ry, q1⟩ => thn (ho pins s1 σ H1 _ I1 q1) fun u s2 ⟨x, H2, I2, rx, a, ov, ex, g, q2⟩ => ?_
 subst ex
 obtain rfl : u = Value.ref a := rx
 exact d_notIn hu I2 g ry fun s3 I3 => ⟨.bl (!ov.isSome), H2, I3, rfl, q2⟩
theorem ps_dput (hu : X.A.units + 1 < cLine) (ho : PE X o td) (hi : PE X i ty) (hv : PE X value tv) (hs : swapsWith value (some (.Subscript o i pos')) pos.line X.env = pure false) :
  PS X (.Assign [.Subscript o i pos'] value pos) (sDPut td ty tv) := by
 intro pins s σ H D I h
 refine wpAny_Assign_Subscript (thn (hv pins s σ H _ I h) fun r s1 ⟨v, H1, I1, rv, q1⟩ => thn (ho pins s1 σ H1 _ I1 q1) fun u s2 ⟨x, H2, I2, rx, q2⟩ => thn (hi pins s2 σ H2 _ I2 q2) fun iv s3 ⟨y, H3, I3, ry, a, H4, ex, g, q3⟩ => ?_) hs
 subst ex
 obtain rfl : u = Value.ref a := rx
 exact d_setItem hu I3 g ry rv fun s4 I4 => ⟨σ, H4, I4, q3⟩
end
theorem dk_empty {P : Program} {w : World} {H : Hp} (h : Heap) (hb : sysModules < h.objs.size) : ObjOk P w H (h.push { cls := .type "dict", data := .dict #[] }) h.objs.size (.dK []) :=
 ⟨Nat.zero_le _, beq_eq_false_iff_ne.mpr (Ne.symm (Nat.ne_of_lt hb)), [], .nil, Heap.DictOf.new h⟩
def tDNewK : TE := fun _ H Q => ∀ p, H p = none -> Q (.ref p) (upd H p (.dK []))
section
variable {X : Cx} {pos : Pos}
theorem pe_dnewK : PE X (.Dict [] [] pos) tDNewK := fun pins s σ H Q I h =>
 wpAny_Dict_empty ⟨.ref s.heap.objs.size, _, I.laid (a := s.heap.objs.size) (o := .dK []) (t' := s.toks) (fun _ _ q => Heap.get?_push_of_some _ q) (Nat.le_refl _) (dk_empty s.heap I.big), rfl, h _ (I.hok.fresh (Nat.le_refl _))⟩
end
end L2
namespace L2
open PySem PySem.Spec PyProof.Rows
end L2
namespace L2
open PySem PySem.Spec PyProof.Rows
section
variable {X : Cx} {pins : List (Addr × Obj)} {σ : St} {H : Hp} {s : Shared} {h' : Heap}
theorem Inv.turnedL {t' : Nat} {ch : List Addr} (I : Inv X pins σ H s) (k : ∀ b o, b ∉ ch -> s.heap.get? b = some o -> h'.get? b = some o) (hf : ∀ b ∈ ch, FpOk X pins H b) : Inv X pins σ H { s with heap := h', toks := t' } := by
 have nit : ∀ b u, H b = some u -> b ∉ ch := fun b u e z => by
  have q := (hf b z).1
  rw [q] at e; cases e
 refine I.step (g' := s.gens) (d' := s.drawn) (ch := ch) (fun b hb => ⟨(hf b hb).2.2.2.1, (hf b hb).2.1, (hf b hb).2.2.2.2.1, (hf b hb).2.2.2.2.2⟩) (fun b o _ _ hc e _ => k b o hc e) (fun b o _ _ hc e _ => ⟨o.slots, k b o hc e⟩)
  (fun _ _ _ _ n => n) (fun b o hc e => ⟨o, k b o hc e⟩) (fun _ _ e => e) (fun _ _ _ e => e) (fun b ps e => ⟨#[], by rw [e]; simp⟩) (fun m hm => ?_) (fun b u e => ?_) I.bare
 ·obtain ⟨o, es, ep, ho, r⟩ := hm
  exact ⟨o, es, ep, k _ o (fun z => (hf _ z).2.1 rfl) ho, r⟩
 ·refine (I.hok b u e).stay (fun c v hc q => k c v ?_ q) (fun _ q => q) fun _ _ q => q
  rcases hc with z | z
  ·rw [z]; exact nit b u e
  ·exact nit c _ z
theorem Inv.turnedNew {t' : Nat} {ch : List Addr} {T : Addr} {ob : HO} (I : Inv X pins σ H s) (k : ∀ b o, b ∉ ch -> s.heap.get? b = some o -> h'.get? b = some o) (hf : ∀ b ∈ ch, FpOk X pins H b) (hT : s.heap.objs.size <= T)
  (new : ObjOk X.prog X.w (upd H T ob) h' T ob) : Inv X pins σ (upd H T ob) { s with heap := h', toks := t' } := by
 have hn : H T = none := I.hok.fresh hT
 have nit : ∀ b u, H b = some u -> b ∉ ch := fun b u e z => by
  have q := (hf b z).1
  rw [q] at e; cases e
 refine I.step (g' := s.gens) (d' := s.drawn) (ch := ch) (fun b hb => ⟨(hf b hb).2.2.2.1, (hf b hb).2.1, (hf b hb).2.2.2.2.1, (hf b hb).2.2.2.2.2⟩) (fun b o _ _ hc e _ => k b o hc e) (fun b o _ _ hc e _ => ⟨o.slots, k b o hc e⟩)
  (fun b o _ e n => ?_) (fun b o hc e => ⟨o, k b o hc e⟩) (fun b xs e => ?_) (fun b o u e => ?_) (fun b ps e => ⟨#[], ?_⟩) (fun m hm => ?_) (fun b u e => ?_) I.bare
 ·rw [uN (Nat.ne_of_lt (Nat.lt_of_lt_of_le (Heap.lt_size e) hT))]; exact n
 ·rw [uN (nN e hn)]; exact e
 ·rw [uN (nN e hn)]; exact e
 ·rw [uN (nN e hn), e]; simp
 ·obtain ⟨o, es, ep, ho, r⟩ := hm
  exact ⟨o, es, ep, k _ o (fun z => (hf _ z).2.1 rfl) ho, r⟩
 ·by_cases hb : b = T
  ·subst hb
   rw [uS] at e
   cases e
   exact new
  ·rw [uN hb] at e
   refine (I.hok b u e).stay (fun c v hc q => k c v ?_ q) (fun c q => by rw [uN (nN q hn)]; exact q) fun c xs q => by rw [uN (nN q hn)]; exact q
   rcases hc with z | z
   ·rw [z]; exact nit b u e
   ·exact nit c _ z
theorem Inv.lock {d : Addr} {u : HO} (I : Inv X pins σ H s) (h : H d = some u) (mu : Mut (some u)) : ∃ od, Inv X pins σ (upd H d (.frz od u)) s := by
 have x := I.hok d u h
 have ex : ∃ od, s.heap.get? d = some od := by
  cases u with
  | lst xs => obtain ⟨_, _, _, _, e⟩ := x; exact ⟨_, e⟩
  | dK kvs => obtain ⟨_, _, _, _, o, _, _, e, _⟩ := x; exact ⟨o, e⟩
  | dT kvs => obtain ⟨_, _, _, _, o, _, _, e, _⟩ := x; exact ⟨o, e⟩
  | set S n => obtain ⟨o, _, _, _, e, _⟩ := x; exact ⟨o, e⟩
  | ins C dx fs => obtain ⟨_, _, _, e, _⟩ := x; exact ⟨_, e⟩
  | ext φ => obtain ⟨_, ⟨_, e⟩, _⟩ := x; exact ⟨_, e⟩
  | _ => exact False.elim mu
 obtain ⟨od, e⟩ := ex
 have new : ObjOk X.prog X.w (upd H d (.frz od u)) s.heap d (.frz od u) := by
  refine ⟨e, x.stay (fun b v _ q => q) (fun b q => ?_) fun b xs q => ?_⟩
  ·rw [uN (fun z => by rw [z, h] at q; cases q; exact mu)]; exact q
  ·rw [uN (fun z => by rw [z, h] at q; cases q; exact mu)]; exact q
 exact ⟨od, I.write (x := d) (e := d) (t' := s.toks) (h' := s.heap) (by rw [h]; exact mu) (.inl rfl) (fun b v _ q => q) ⟨od, e⟩ new⟩
theorem Inv.nofrz {d : Addr} {u : HO} (I : Inv X pins σ H s) (h : H d = some u) (mu : Mut (some u)) : ∀ o' u', X.H_0 d ≠ some (.frz o' u') := fun o' u' e => by
 have q := I.base.frzs d o' u' e
 rw [h] at q
 cases q
 exact mu
theorem Inv.unlock {d : Addr} {od : Obj} {u : HO} (I : Inv X pins σ H s) (h : H d = some (.frz od u)) (hn : ∀ o' u', X.H_0 d ≠ some (.frz o' u')) : Inv X pins σ (upd H d u) s := by
 have neH : ∀ b o, H b = some o -> (∀ o' u', o ≠ .frz o' u') -> b ≠ d := fun b o e hne z => by
  rw [z, h] at e
  cases e
  exact hne _ _ rfl
 have neN : ∀ b, H b = none -> b ≠ d := fun b e z => by rw [z, h] at e; cases e
 refine ⟨I.ok, I.os, I.bare, ⟨I.base.keep, I.base.slot, fun b o e n hx => ?_, I.base.there, fun b xs e => ?_, fun b o x e => ?_, fun b ps e => ?_⟩, I.loc, I.cell, ?_, fun x c e => ?_, fun p hp => ?_, fun b o e => ?_, I.len⟩
 ·rw [uN (neN b (I.base.free b o e n hx))]; exact I.base.free b o e n hx
 ·have q := I.base.tups b xs e
  rw [uN (neH b _ q (fun _ _ z => nomatch z))]; exact q
 ·have q := I.base.frzs b o x e
  rw [uN (fun z => by rw [z] at e; exact hn _ _ e)]; exact q
 ·obtain ⟨m, q⟩ := I.base.tbls b ps e
  exact ⟨m, by rw [uN (neH b _ q (fun _ _ z => nomatch z))]; exact q⟩
 ·rw [uN (neN _ I.free)]; exact I.free
 ·rw [uN (neN c (I.freeC x c e))]; exact I.freeC x c e
 ·obtain ⟨e, n, r⟩ := I.pin p hp
  exact ⟨e, by rw [uN (neN _ n)]; exact n, r⟩
 ·by_cases hb : b = d
  ·rw [hb, uS] at e
   cases e
   rw [hb]
   obtain ⟨_, x⟩ := I.hok d _ h
   exact x.stay (fun c v _ q => q) (fun c q => by rw [uN (neH c _ q (fun _ _ z => nomatch z))]; exact q) fun c xs q => by rw [uN (neH c _ q (fun _ _ z => nomatch z))]; exact q
  ·rw [uN hb] at e
   exact (I.hok b o e).stay (fun c v _ q => q) (fun c q => by rw [uN (neH c _ q (fun _ _ z => nomatch z))]; exact q) fun c xs q => by rw [uN (neH c _ q (fun _ _ z => nomatch z))]; exact q
end
def tLock (t : TS) : TS := fun D σ H => ∃ d u, H d = some u /\ Mut (some u) /\ ∀ od, t ⟨fun σ' H' => H' d = some (.frz od u) /\ D.nx σ' (upd H' d u), fun v H' => H' d = some (.frz od u) /\ D.rt v (upd H' d u), fun σ' H' => H' d = some (.frz od u) /\ D.bk σ' (upd H' d u), fun σ' H' => H' d = some (.frz od u) /\ D.ct σ' (upd H' d u)⟩ σ (upd H d (.frz od u))
def tLockE (t : TE) : TE := fun σ H Q => ∃ d u, H d = some u /\ Mut (some u) /\ ∀ od, t σ (upd H d (.frz od u)) fun v H' => H' d = some (.frz od u) /\ Q v (upd H' d u)
section
variable {X : Cx}
theorem ps_lock {st : Stmt} {t : TS} (h : PS X st t) : PS X st (tLock t) := by
 intro pins s σ H D I hw
 obtain ⟨d, u, hd, mu, hw⟩ := hw
 obtain ⟨od, I1⟩ := I.lock hd mu
 refine thn (h pins s σ _ _ I1 (hw od)) fun f s1 q => ?_
 cases f with
 | next => obtain ⟨σ', H', I2, e, q⟩ := q; exact ⟨σ', _, I2.unlock e (I.nofrz hd mu), q⟩
 | brk => obtain ⟨σ', H', I2, e, q⟩ := q; exact ⟨σ', _, I2.unlock e (I.nofrz hd mu), q⟩
 | cont => obtain ⟨σ', H', I2, e, q⟩ := q; exact ⟨σ', _, I2.unlock e (I.nofrz hd mu), q⟩
 | ret v => obtain ⟨x, σ', H', I2, r, e, q⟩ := q; exact ⟨x, σ', _, I2.unlock e (I.nofrz hd mu), r, q⟩
theorem pe_lock {e : Expr} {t : TE} (h : PE X e t) : PE X e (tLockE t) := by
 intro pins s σ H Q I hw
 obtain ⟨d, u, hd, mu, hw⟩ := hw
 obtain ⟨od, I1⟩ := I.lock hd mu
 refine thn (h pins s σ _ _ I1 (hw od)) fun v s1 ⟨x, H1, I2, r, e2, q⟩ => ?_
 exact ⟨x, _, I2.unlock e2 (I.nofrz hd mu), r, q⟩
theorem pi_one {tg : Expr} {pins : List (Addr × Obj)} {σ : St} {H : Hp} {s : Shared} {R : It -> Hp -> Prop} {J : It} {tn : Nat -> Heap -> Prop} {tk : Nat} (I : Inv X pins σ H s) (o : Obj)
  (T : Turn X.prog X.w X.K tg J [s.heap.objs.size] s.heap.objs.size tn) (st : tn 0 (s.heap.push o)) (q : R J H) : PIE X pins σ tg R (.ref s.heap.objs.size) { s with heap := s.heap.push o, toks := tk } := by
 refine ⟨s.heap.objs.size, [s.heap.objs.size], tn, J, H, rfl, I.kept fun b ob e => Heap.get?_push_of_some _ e, T, st, fun b hb => ?_, q⟩
 have e : b = s.heap.objs.size := by simpa using hb
 subst e
 exact I.fpOk (Nat.le_refl _) (I.hok.fresh (Nat.le_refl _))
end
theorem kv_get {κ : Type} {kvs : List (κ × V)} {vs : List (κ × Value)} (h : KV kvs vs) : ∀ {i : Nat} {k : κ} {v : V}, kvs[i]? = some (k, v) -> ∃ u, vs[i]? = some (k, u) /\ RelV v u := by
 unfold KV at h
 induction h with
 | nil => intro i k v e; simp at e
 | @cons a b l₁ l₂ r t ih =>
  intro i k v e
  cases i with
  | zero =>
   simp only [List.getElem?_cons_zero, Option.some.injEq] at e
   subst e
   refine ⟨b.2, ?_, r.2⟩
   simp only [List.getElem?_cons_zero]
   exact congrArg some (Prod.ext r.1.symm rfl)
  | succ j =>
   simp only [List.getElem?_cons_succ] at e ⊢
   exact ih e
section
variable {X : Cx} {pins : List (Addr × Obj)} {σ : St} {H : Hp} {s : Shared} {d : Addr} {o : Obj}
theorem Inv.frzK {kvs : List (Key × V)} (I : Inv X pins σ H s) (h : H d = some (.frz o (.dK kvs))) :
  (d == sysModules) = false /\ s.heap.get? d = some o /\ o.ExactDict /\ ∃ (es : Array DictEntry) (ep : Nat) (vs : List (Key × Value)), o.data = .dict es ep /\ es.size = kvs.length /\ KV kvs vs /\ s.heap.DictAt (mixKind X.prog X.w) d vs ep := by
 obtain ⟨hd, z, hs, vs, kv, o', es, ep, ho, hx, hdt, r⟩ := I.hok d _ h
 rw [hd] at ho
 cases ho
 refine ⟨hs, hd, hx, es, ep, vs, hdt, ?_, kv, o, es, hd, hx, hdt, r⟩
 have l1 := r.2.1.length
 have l2 : kvs.length = vs.length := Paired.length kv
 rw [Array.length_toList] at l1
 omega
end
def Itd (d : Addr) (o : Obj) (kvs : List (Key × V)) : It :=
 ⟨fun i H => H d = some (.frz o (.dK kvs)) /\ i < kvs.length, fun i H x H' => H' = H /\ ∃ k, kvs[i]? = some (k, x), fun i H => H d = some (.frz o (.dK kvs)) /\ kvs.length <= i⟩
theorem dict_ep {o : Obj} {es es' : Array DictEntry} {ep ep' : Nat} (h : o.data = .dict es ep) (h' : o.data = .dict es' ep') : es' = es /\ ep' = ep := by
 rw [h] at h'
 cases h'
 exact ⟨rfl, rfl⟩
section
variable {P : Program} {w : World} {K : PySem.W.Frag} {tg : Expr} {d : Addr} {o : Obj} {es : Array DictEntry} {ep : Nat}
theorem turn_vals {kvs : List (Key × V)} (it : Addr) (hod : o.data = .dict es ep) : Turn P w K tg (Itd d o kvs) [it] it (fun i h => h.IsValIter it d i kvs.length ep) where
 mem := by simp
 obj := fun i h st b hb => by
  have e : b = it := by simpa using hb
  subst e
  obtain ⟨oi, e, c, dd⟩ := st
  exact ⟨oi, e, fun v z => by rw [dd] at z; cases z⟩
 keep := fun i h h' st k => st.at fun oi e => k it (by simp) oi e
 item := by
  intro X hP hw hK hc i pins s σ H E I hf st hg
  subst hP hw hK
  obtain ⟨hd, hi⟩ := hg
  obtain ⟨f0, f1, f2, f3, f4, f5⟩ := hf it (by simp)
  obtain ⟨hs, hgd, hx, es', ep', vs, hdt, hsz, kv, hm⟩ := I.frzK hd
  obtain ⟨rfl, rfl⟩ := dict_ep hod hdt
  obtain ⟨⟨k, v⟩, hkv⟩ : ∃ p, kvs[i]? = some p := ⟨kvs[i], List.getElem?_eq_getElem hi⟩
  obtain ⟨u, hu, ru⟩ := kv_get kv hkv
  have hl : kvs.length = vs.length := Paired.length kv
  rw [hl] at st
  refine wpAny_pyNext_values_item st hm hu fun h' st' sb => ?_
  have I1 : Inv X pins σ H { s with heap := h' } := I.turned (t' := s.toks) (fun b ob hb e => (sb.2 b hb).trans e) f0 f1 f3 f4 f5
  obtain ⟨oi, e, c, dd⟩ := id st'
  refine ⟨u, rfl, go_of (s := { s with heap := h' }) e c dd (by decide) ⟨v, H, I1, ru, ⟨rfl, k, hkv⟩, ?_, fun b hb => (hf b hb).1⟩⟩
  show h'.IsValIter it d (i + 1) kvs.length _
  rw [hl]
  exact st'
 done := by
  intro X hP hw hK hc i pins s σ H E I hf st hg
  subst hP hw hK
  obtain ⟨hd, hi⟩ := hg
  obtain ⟨f0, f1, f2, f3, f4, f5⟩ := hf it (by simp)
  obtain ⟨hs, hgd, hx, es', ep', vs, hdt, hsz, kv, hm⟩ := I.frzK hd
  obtain ⟨rfl, rfl⟩ := dict_ep hod hdt
  have hl : kvs.length = vs.length := Paired.length kv
  rw [hl] at st
  exact wpAny_pyNext_values_end (I.ok.hd hc) st hm (List.getElem?_eq_none (by omega)) fun h' eb => ⟨rfl, I.turned (t' := s.toks) (fun b ob hb e => eb b ob hb e) f0 f1 f3 f4 f5⟩
 self := fun A i s Q E st h => wpAny_pyIter_valiter st h
end
def iVals (td : TE) : TI := fun σ H R => td σ H fun x H1 => ∃ d o kvs, x = .ref d /\ H1 d = some (.frz o (.dK kvs)) /\ R (Itd d o kvs) H1
section
variable {X : Cx} {tg e : Expr} {td : TE} {apos cpos : Pos}
theorem pi_values (he : PE X e td) (hbase : attributeBase e "values" X.env (eval e X.env) = eval e X.env := by rfl) (hline : (apos.endLine == cpos.line) = true := by rfl) : PI X tg (.Call (.Attribute e "values" apos) [] [] cpos) (iVals td) := by
 intro pins s σ H R I h
 refine wpAny_Call_method (T := "dict") (id := "dict.values") hbase rfl hline F.plainAttrs_dict F.slot_dict_values F.type_dict_values (thn (he pins s σ H _ I h) fun u s1 ⟨x, H1, I1, rx, d, o, kvs, ex, hd, q⟩ => ?_)
 subst ex
 obtain rfl : u = Value.ref d := rx
 obtain ⟨hs, hgd, hx, es, ep, vs, hdt, hsz, kv, hm⟩ := I1.frzK hd
 have hl : kvs.length = vs.length := Paired.length kv
 refine ⟨hm.dictOf.typeIs, hm.dictOf.mapOf.noDict, ?_⟩
 have I2 : Inv X pins σ H1 { s1 with heap := s1.heap.push { cls := .type "dict_values", data := .fields #[.ref d] } } := I1.kept (t' := s1.toks) fun b ob q => Heap.get?_push_of_some _ q
 have fin : wpAny (model X.prog X.w) X.A (pyIter (.ref s1.heap.objs.size)) (PIE X pins σ tg R) X.xe { s1 with heap := s1.heap.push { cls := .type "dict_values", data := .fields #[.ref d] } } := by
  refine wpAny_pyIter_values (d := d) (knd := mixKind X.prog X.w) ⟨_, Heap.get?_push_size _ rfl, rfl, rfl⟩ (hm.push _) (pi_one (tk := s1.toks) I2 _ (turn_vals _ hdt) ⟨_, Heap.get?_push_size _ rfl, rfl, ?_⟩ q)
  rw [hl] <;> rfl
 show wpAny _ _ (callWith cpos (.builtin "dict.values") [.ref d] [] []) _ X.xe s1
 exact method_meetsIn F.slot_dict_values F.entry_dict_values rfl (PySem.evalArgs_none ⟨rfl, hm.dictOf.typeIs, F.args_dict_values_1 _, _, meets_dict_values (mixKind X.prog X.w) d hs, ⟨vs, hm.dictOf⟩, fin⟩)
end
theorem boot_zip5 : bootBuiltins "zip" = some (.type "zip") := by decide +kernel
def Itz (K : PySem.W.Frag) (a b : Addr) : It :=
 ⟨fun i H => ∃ (xs ys : List V) (x y : V), SqL K H a xs /\ SqL K H b ys /\ xs[i]? = some x /\ ys[i]? = some y,
  fun i H v H' => ∃ T x y, v = .ref T /\ H T = none /\ H' = upd H T (.tup [x, y]) /\ (∀ xs, SqL K H a xs -> xs[i]? = some x) /\ ∀ ys, SqL K H b ys -> ys[i]? = some y,
  fun i H => ∃ xs ys : List V, SqL K H a xs /\ SqL K H b ys /\ (xs.length <= i \/ ys.length <= i)⟩
theorem turn_zip {P : Program} {w : World} {K : PySem.W.Frag} {elts : List Expr} {kk : Nat} {tpos : Pos} {a b z TI TO i1 i2 : Addr} (D : ZipApart z TI TO i1 i2 a b) :
  Turn P w K (.Tuple elts kk tpos) (Itz K a b) [z, TI, TO, i1, i2] z (fun i h => IsZip h z TI TO .none /\ IsPair h TI (.ref i1) (.ref i2) /\ (∃ x y, IsPair h TO x y) /\ h.IsListIter i1 a i /\ h.IsListIter i2 b i) where
 mem := by simp
 obj := fun i h st c hc => by
  obtain ⟨hz, hTI, ⟨x, y, hTO⟩, ⟨o1, e1, _, d1⟩, ⟨o2, e2, _, d2⟩⟩ := st
  have e' : c = z \/ c = TI \/ c = TO \/ c = i1 \/ c = i2 := by simpa using hc
  rcases e' with q | q | q | q | q
  ·rw [q]; exact ⟨_, hz, fun v q => nomatch q⟩
  ·rw [q]; exact ⟨_, hTI, fun v q => nomatch q⟩
  ·rw [q]; exact ⟨_, hTO, fun v q => nomatch q⟩
  ·rw [q]; exact ⟨o1, e1, fun v q => by rw [d1] at q; cases q⟩
  ·rw [q]; exact ⟨o2, e2, fun v q => by rw [d2] at q; cases q⟩
 keep := fun i h h' st k => by
  obtain ⟨hz, hTI, ⟨x, y, hTO⟩, h1, h2⟩ := st
  exact ⟨k z (by simp) _ hz, k TI (by simp) _ hTI, ⟨x, y, k TO (by simp) _ hTO⟩, h1.at fun o q => k i1 (by simp) o q, h2.at fun o q => k i2 (by simp) o q⟩
 item := by
  intro X hP hw hK hc i pins s σ H E I hf st hg
  subst hP hw hK
  obtain ⟨hz, hTI, ⟨x0, y0, hTO⟩, h1, h2⟩ := st
  obtain ⟨xs, ys, x, y, hqx, hqy, hx, hy⟩ := hg
  obtain ⟨its, rv, p, _⟩ := I.list hqx
  obtain ⟨its2, rv2, p2, _⟩ := I.list hqy
  obtain ⟨u, hu, ru⟩ := rv.get hx
  obtain ⟨u2, hu2, ru2⟩ := rv2.get hy
  have hzl : z < s.heap.objs.size := Heap.lt_size hz
  refine wpAny_pyNext_zip_item D hz hTI hTO h1 h2 p.isList p2.isList (x := u) (y := u2) (by simpa using hu) (by simpa using hu2) fun h' z' TO' h1' h2' hT hsz hk => ?_
  refine ⟨_, rfl, wpAny_letOwnedTupleGo_zip (s := { s with heap := h' }) z' fun h'' z'' sb => ?_⟩
  have hT2 : h''.get? s.heap.objs.size = some { cls := .type "tuple", data := .seq #[u, u2] } := (sb.2 _ (Nat.ne_of_gt hzl)).trans hT
  have new : ObjOk X.prog X.w (upd H s.heap.objs.size (.tup [x, y])) h'' s.heap.objs.size (.tup [x, y]) :=
   ⟨by show 2 <= sizeLine; decide, [u, u2], .cons ru (.cons ru2 .nil), ⟨_, hT2, rfl, _, rfl⟩⟩
  have I1 : Inv X pins σ (upd H s.heap.objs.size (.tup [x, y])) { s with heap := h'' } :=
   I.turnedNew (t' := s.toks) (ch := [z, TI, TO, i1, i2]) (fun c o hb q => (sb.2 c (fun q' => hb (by simp [q']))).trans (hk c o (fun q' => hb (by simp [q'])) (fun q' => hb (by simp [q'])) (fun q' => hb (by simp [q'])) (fun q' => hb (by simp [q'])) q)) hf (Nat.le_refl _) new
  refine ⟨.ref s.heap.objs.size, _, I1, rfl, ⟨_, x, y, rfl, I.hok.fresh (Nat.le_refl _), rfl, fun l hl => by rw [I.list_inj hl hqx]; exact hx, fun l hl => by rw [I.list_inj hl hqy]; exact hy⟩, ⟨z'', ?_, ⟨u, u2, ?_⟩, ?_, ?_⟩, fun c hcm => ?_⟩
  ·exact (sb.2 _ D.TIz).trans (hk _ _ D.TIz D.TITO D.TIi1 D.TIi2 hTI)
  ·exact (sb.2 _ D.TOz).trans TO'
  ·exact h1'.at fun o q => (sb.2 _ D.i1z).trans q
  ·exact h2'.at fun o q => (sb.2 _ D.i2z).trans q
  ·have hlt : c < s.heap.objs.size := by
    have e' : c = z \/ c = TI \/ c = TO \/ c = i1 \/ c = i2 := by simpa using hcm
    rcases e' with q | q | q | q | q
    ·rw [q]; exact hzl
    ·rw [q]; exact Heap.lt_size hTI
    ·rw [q]; exact Heap.lt_size hTO
    ·rw [q]; obtain ⟨_, e1, _⟩ := h1; exact Heap.lt_size e1
    ·rw [q]; obtain ⟨_, e2, _⟩ := h2; exact Heap.lt_size e2
   rw [uN (Nat.ne_of_lt hlt)]
   exact (hf c hcm).1
 done := by
  intro X hP hw hK hc i pins s σ H E I hf st hg
  subst hP hw hK
  obtain ⟨hz, hTI, ⟨x0, y0, hTO⟩, h1, h2⟩ := st
  obtain ⟨xs, ys, hqx, hqy, hend⟩ := hg
  obtain ⟨its, rv, p, _⟩ := I.list hqx
  obtain ⟨its2, rv2, p2, _⟩ := I.list hqy
  have l1 := rv.length
  have l2 := rv2.length
  have he : its.toArray[i]? = none \/ its2.toArray[i]? = none := by
   rcases hend with q | q
   ·exact .inl (by simp; omega)
   ·exact .inr (by simp; omega)
  exact wpAny_pyNext_zip_end (I.ok.hd hc) D hz hTI hTO h1 h2 p.isList p2.isList he fun h' hk => ⟨rfl, I.turnedL (t' := s.toks) (ch := [z, TI, TO, i1, i2]) (fun c o hb q =>
   hk c o (fun q' => hb (by simp [q'])) (fun q' => hb (by simp [q'])) (fun q' => hb (by simp [q'])) (fun q' => hb (by simp [q'])) q) hf⟩
 self := fun A i s Q E st h => wpAny_pyIter_zip st.1 h
def iZip (K : PySem.W.Frag) (ta : TA) : TI := fun σ H R => ta σ H fun vs H1 => ∃ a b xs ys, vs = [.ref a, .ref b] /\ SqL K H1 a xs /\ SqL K H1 b ys /\ R (Itz K a b) H1
theorem pi_zip {X : Cx} {e e2 : Expr} {ta : TA} {p pos tpos : Pos} {elts : List Expr} {kk : Nat} (hg : Gl X "zip") (hm : X.mg "zip" = none) (ha : PA X [e, e2] ta)
  (hs : starEach [e, e2] X.env = (false, eval e X.env) :: starEach [e2] X.env := by rfl) (hpl : (backTo pos (starEach [e2] X.env)).any (·.1) = false := by rfl) :
  PI X (.Tuple elts kk tpos) (.Call (.Name "zip" p) [e, e2] [] pos) (iZip X.K ta) := by
 intro pins s σ H R I h
 refine Call_ (ld_blt I hg hm boot_zip5 (PyProof.Rows.callWith_type1 (thn (ha pos pins s σ H _ I h) fun us s1 ⟨vs, H1, I1, r1, q1⟩ => ?_) hs hpl))
 obtain ⟨a, b, xs, ys, ex, hqx, hqy, q⟩ := q1
 subst ex
 cases r1 with
 | cons r rr =>
  cases rr with
  | cons r' rr =>
   cases rr
   cases r
   cases r'
   obtain ⟨its, rv, p1, _⟩ := I1.list hqx
   obtain ⟨its2, rv2, p2, _⟩ := I1.list hqy
   have la : a < s1.heap.objs.size := p1.lt
   have lb : b < s1.heap.objs.size := p2.lt
   refine call_zip_2 p1.isList p2.isList fun h' hz hTI hTO h1 h2 hsz hk => wpAny_pyIter_zip hz ?_
   have I2 : Inv X pins σ H1 { s1 with heap := h' } := I1.kept (t' := s1.toks) hk
   refine ⟨s1.heap.objs.size + 4, [s1.heap.objs.size + 4, s1.heap.objs.size + 2, s1.heap.objs.size + 3, s1.heap.objs.size, s1.heap.objs.size + 1], _, _, H1, rfl, I2, turn_zip (PySem.W.ktu_apart s1.heap.objs.size a b la lb), ⟨hz, hTI, ⟨_, _, hTO⟩, h1, h2⟩, fun c hcm => ?_, q⟩
   have e' : c = s1.heap.objs.size + 4 \/ c = s1.heap.objs.size + 2 \/ c = s1.heap.objs.size + 3 \/ c = s1.heap.objs.size \/ c = s1.heap.objs.size + 1 := by simpa using hcm
   have hle : s1.heap.objs.size <= c := by
    rcases e' with z | z | z | z | z
    ·rw [z]; exact Nat.le_add_right _ _
    ·rw [z]; exact Nat.le_add_right _ _
    ·rw [z]; exact Nat.le_add_right _ _
    ·rw [z]; exact Nat.le_refl _
    ·rw [z]; exact Nat.le_add_right _ _
   exact I1.fpOk hle (I1.hok.fresh hle)
end L2
section
namespace Bits
open PySem PyProof.Rows
end Bits
end
section
namespace TL
open PySem PySem.Builtin PySem.Builtin.Str PySem.StrLaws
end TL
end
namespace L2
open PySem PySem.Spec PyProof.Rows
end L2
namespace L2
open PySem PySem.Spec PyProof.Rows
end L2
namespace Att
open PySem PySem.W PySem.Calls PyProof.Rows
end Att
namespace L2
open PySem PySem.Spec PyProof.Rows
end L2
namespace L2
open PySem PySem.Spec PyProof.Rows
end L2
namespace L2
open PySem PySem.Spec PyProof.Rows
def inClass (s : Stmt) (j : Nat) : Stmt := match s with
 | .ClassDef _ _ _ body _ _ _ _ _ _ _ => body.getD j (.Pass ⟨0, 0, 0, 0⟩)
 | _ => .Pass ⟨0, 0, 0, 0⟩
def dAr (s : Stmt) : Arguments := match s with
 | .FunctionDef _ a _ _ _ _ _ _ _ _ => a
 | _ => { posonlyargs := [], args := [], vararg := none, kwonlyargs := [], kw_defaults := [], kwarg := none, defaults := [] }
def dBo (s : Stmt) : List Stmt := match s with
 | .FunctionDef _ _ b _ _ _ _ _ _ _ => b
 | _ => []
def dSc (s : Stmt) : Scope := match s with
 | .FunctionDef _ _ _ _ _ _ sc _ _ _ => sc
 | _ => { kind := .function, names := [], isGenerator := false, isCoroutine := false }
abbrev CX0 : CXT := fun _ _ _ _ _ _ => False
abbrev E0 : XK := fun _ _ _ => False
theorem pass0 {X : Cx} : Passes CX0 X E0 := fun _ _ _ _ _ _ _ h => h.elim
structure Fun (K : PySem.W.Frag) (x qual : Str) (st : Stmt) (f : Addr) (fd : FuncData) : Prop where
 ex : ∃ (oc : Value) (od : Option Addr) (kV doc pm : Value) (an : Option Addr) (cdv ct : Value) (osl : Array (Option Value)),
  fd = PySem.W.fnOf x qual (dAr st) (dBo st) (dSc st) .none kV doc pm an cdv ct /\ K.lookup f = some ⟨oc, od, .func fd, osl⟩ /\ PySem.W.codeIn K cdv qual = true
 kp : PySem.W.keepIn K (.ref f) = true
section
variable {P : Program} {w : World} {K : PySem.W.Frag} {mg : Str -> Option Value} {base : Heap}
theorem Fun.ok {x qual : Str} {st : Stmt} {f : Addr} {fd : FuncData} {N ps : List Str} {k : Nat} {sp : Sp} (F : Fun K x qual st f fd) (S : FSc N ps (dSc st)) (len : ∀ vs H Q E, sp vs H Q E -> vs.length = ps.length)
  (hbody : ∀ (cdv : Value) (A : Around) (outer : List Env) (s : Shared) (H : Hp) (vs : List V) (Q : VK) (E : XK), Room k (A.deeper (envOfC qual (dSc st) s.heap.objs.size f cdv)) -> sp vs H Q E ->
   ∃ t, PSs (cxOf CX0 P w K mg base N qual (dSc st) f cdv A outer s H E).nox (dBo st) t /\ t { nx := fun _ H' => Q .non H', rt := Q } (start N vs) H) : FnOk P w K mg base CX0 (k + 1) f fd ps sp := by
 obtain ⟨oc, od, kV, doc, pm, an, cdv, ct, osl, rfl, lk, hcd⟩ := F.ex
 refine fn_of lk hcd S len fun A outer s H vs Q E hr hsp => ?_
 obtain ⟨t, h, q⟩ := hbody cdv A outer s H vs Q E hr hsp
 exact ⟨t, h.nox, q⟩
theorem Fun.binds {x qual : Str} {st : Stmt} {f : Addr} {fd : FuncData} {ps : List Str} (F : Fun K x qual st f fd)
  (h : ∀ (kV doc pm : Value) (an : Option Addr) (cdv ct : Value) (us : List Value), us.length = ps.length -> bindArgs (PySem.W.fnOf x qual (dAr st) (dBo st) (dSc st) .none kV doc pm an cdv ct) ⟨us, []⟩ = pure (ps.zip us)) : Binds K fd ps [] := by
 obtain ⟨oc, od, kV, doc, pm, an, cdv, ct, osl, rfl, lk, hcd⟩ := F.ex
 exact .all (h kV doc pm an cdv ct)
theorem fun_mk {x qual : Str} {st : Stmt} {f : Addr} {oc : Value} {od an : Option Addr} {osl : Array (Option Value)} {kV doc pm cdv ct : Value} (l : K.lookup f = some ⟨oc, od, .func (PySem.W.fnOf x qual (dAr st) (dBo st) (dSc st) .none kV doc pm an cdv ct), osl⟩)
  (c : PySem.W.codeIn K cdv qual = true) (k : PySem.W.keepIn K (.ref f) = true) : Fun K x qual st f (PySem.W.fnOf x qual (dAr st) (dBo st) (dSc st) .none kV doc pm an cdv ct) := ⟨⟨oc, od, kV, doc, pm, an, cdv, ct, osl, rfl, l, c⟩, k⟩
end
theorem hu_of {A : Around} {k : Nat} (hr : Room k A) : A.units + 1 < cLine := Nat.lt_of_le_of_lt (Nat.add_le_add_left (by decide : 1 <= 64) _) hr.units
theorem small1000 {n : Nat} (h : n <= 1000) : n < sizeLine := Nat.lt_of_le_of_lt h (by decide)
section
variable {X : Cx}
theorem pv (i : Nat) {x : Str} {pos : Pos} (hN : X.N[i]? = some x := by rfl) (hv : Vis X.env.scope x := by first | exact Or.inl rfl | exact Or.inr (Or.inl rfl) | exact Or.inr (Or.inr rfl)) (hd : (x == ("__debug__" : Str)) = false := by decide)
  (hcd : (x == ("__classdict__" : Str)) = false := by decide) : PE X (.Name x pos) (tVar i) := pe_var hN hv hd hcd
theorem call_lenD : CallR X (.builtin "len") (fun xs H Q => ∃ a kvs, xs = [V.ref a] /\ H a = some (.dK kvs) /\ Q (.int kvs.length) H) := by
 intro pins s σ H xs us Q I r h
 obtain ⟨a, kvs, rfl, ha, q⟩ := h
 obtain ⟨u, rfl, ru⟩ := vals1 r
 cases ru
 exact d_len I (.inl ha) fun t s' I' => ⟨.int kvs.length, H, I', ⟨t, rfl⟩, q⟩
end
def Same (H H' : Hp) : Prop := ∀ b o, H b = some o -> H' b = some o
theorem Same.refl (H : Hp) : Same H H := fun _ _ h => h
theorem Same.trans {H H1 H2 : Hp} (a : Same H H1) (b : Same H1 H2) : Same H H2 := fun c o h => b c o (a c o h)
theorem Same.free {H H' : Hp} (e : Same H H') {l : Addr} (h : H' l = Option.none) : H l = Option.none := by
 cases q : H l with
 | none => rfl
 | some o =>
  rw [e l o q] at h
  cases h
theorem Same.seq {K : PySem.W.Frag} {H H' : Hp} {a : Addr} {xs : List V} (e : Same H H') (h : SqL K H a xs) : SqL K H' a xs := by
 rcases h with (h | ⟨o, h⟩) | h
 ·exact .inl (.inl (e _ _ h))
 ·exact .inl (.inr ⟨o, e _ _ h⟩)
 ·exact .inr h
section
variable {κ : Type} [DecidableEq κ]
theorem nd_snoc : ∀ {l : List κ} {k : κ}, l.Nodup -> ¬ k ∈ l -> (l ++ [k]).Nodup
 | [], k, _, _ => by simp
 | a :: r, k, h, hk => by
  obtain ⟨h1, h2⟩ := List.nodup_cons.mp h
  show (a :: (r ++ [k])).Nodup
  refine List.nodup_cons.mpr ⟨fun m => ?_, nd_snoc h2 fun m => hk (List.mem_cons.mpr (Or.inr m))⟩
  rcases List.mem_append.mp m with q | q
  ·exact h1 q
  ·exact hk (List.mem_cons.mpr (Or.inl (List.mem_singleton.mp q).symm))
end
theorem at_of {xs : List V} {z : Int} {j : Nat} {v : V} (e : z = (j : Int)) (h : xs[j]? = some v) : atI xs z = some v := by
 rw [e]
 exact atI_nat h
theorem nd_ix {α : Type} {l : List α} (hN : l.Nodup) {i j : Nat} {x : α} (a : l[i]? = some x) (b : l[j]? = some x) : i = j := by
 obtain ⟨h1, e1⟩ := List.getElem?_eq_some_iff.mp a
 obtain ⟨h2, e2⟩ := List.getElem?_eq_some_iff.mp b
 exact (List.getElem_inj hN).mp (e1.trans e2.symm)
end L2
end
section
namespace SH
open Vbahas
def tOf (sl : List Slot) (p : Nat) : Int := match sl[p]? with
 | some x => x.time
 | none => 0
def oOf (sl : List Slot) (p : Nat) : Option Int := match sl[p]? with
 | some x => x.owner
 | none => none
theorem timeOf_eq (s : State) (p : Nat) : timeOf s p = tOf s.slots p := rfl
theorem ownerOf_eq (s : State) (p : Nat) : ownerOf s p = oOf s.slots p := rfl
theorem tOf_some {sl : List Slot} {p : Nat} {x : Slot} (h : sl[p]? = some x) : tOf sl p = x.time := by unfold tOf; rw [h]
theorem oOf_some {sl : List Slot} {p : Nat} {x : Slot} (h : sl[p]? = some x) : oOf sl p = x.owner := by unfold oOf; rw [h]
theorem tOf_times {sl sl' : List Slot} (h : sl'.map (·.time) = sl.map (·.time)) (p : Nat) : tOf sl' p = tOf sl p := by
 have e := congrArg (fun l => l[p]?) h
 simp only [List.getElem?_map] at e
 unfold tOf
 cases h1 : sl'[p]? <;> cases h2 : sl[p]? <;> simp_all
theorem len_times {sl sl' : List Slot} (h : sl'.map (·.time) = sl.map (·.time)) : sl'.length = sl.length := by
 have e := congrArg List.length h
 simpa using e
structure SOk (sl : List Slot) : Prop where
 up : sl.Pairwise (fun a b => a.time < b.time)
 rng : ∀ x ∈ sl, 0 <= x.time /\ x.time <= 52595999
 len : sl.length <= 120
 own : ∀ x ∈ sl, ∀ c, x.owner = some c -> 0 <= c /\ c <= 675
theorem SOk.lt {sl : List Slot} (h : SOk sl) {p q : Nat} (hpq : p < q) (hq : q < sl.length) : tOf sl p < tOf sl q := by
 have a := List.pairwise_iff_getElem.mp h.up p q (by omega) hq hpq
 rw [tOf_some (List.getElem?_eq_getElem (show p < sl.length by omega)), tOf_some (List.getElem?_eq_getElem hq)]
 exact a
theorem SOk.le {sl : List Slot} (h : SOk sl) {p q : Nat} (hpq : p <= q) (hq : q < sl.length) : tOf sl p <= tOf sl q := by
 by_cases e : p = q
 ·subst e; exact Int.le_refl _
 ·exact Int.le_of_lt (h.lt (by omega) hq)
theorem SOk.ownO {sl : List Slot} (h : SOk sl) {p : Nat} {c : Int} (e : oOf sl p = some c) : 0 <= c /\ c <= 675 := by
 unfold oOf at e
 cases q : sl[p]? with
 | none => rw [q] at e; cases e
 | some x => rw [q] at e; exact h.own x (List.mem_of_getElem? q) c e
theorem SOk.of_times {sl sl' : List Slot} (h : SOk sl) (e : sl'.map (·.time) = sl.map (·.time)) (ho : ∀ p c, oOf sl' p = some c -> 0 <= c /\ c <= 675) : SOk sl' := by
 have hl := len_times e
 have gt : ∀ p (hp : p < sl'.length), sl'[p].time = sl[p].time := fun p hp => by
  have := tOf_times e p
  rw [tOf_some (List.getElem?_eq_getElem hp), tOf_some (List.getElem?_eq_getElem (hl ▸ hp))] at this
  exact this
 refine ⟨List.pairwise_iff_getElem.mpr fun i j hi hj hij => ?_, fun x hx => ?_, by rw [hl]; exact h.len, fun x hx c hc => ?_⟩
 ·rw [gt i hi, gt j hj]
  exact List.pairwise_iff_getElem.mp h.up i j _ _ hij
 ·obtain ⟨i, hi, rfl⟩ := List.mem_iff_getElem.mp hx
  rw [gt i hi]
  exact h.rng _ (List.getElem_mem _)
 ·obtain ⟨i, hi, rfl⟩ := List.mem_iff_getElem.mp hx
  exact ho i c (by rw [oOf_some (List.getElem?_eq_getElem hi)]; exact hc)
def ownAt (sl : List Slot) (p : Nat) (o : Option Int) : List Slot := sl.zipIdx.map fun x => if x.2 = p then { x.1 with owner := o } else x.1
theorem setOwner_eq (s : State) (p : Nat) (o : Option Int) : setOwner s p o = { s with slots := ownAt s.slots p o } := rfl
theorem ownAt_get (sl : List Slot) (p : Nat) (o : Option Int) (q : Nat) : (ownAt sl p o)[q]? = (sl[q]?).map fun x => if q = p then { x with owner := o } else x := by
 unfold ownAt
 rw [List.getElem?_map, List.getElem?_zipIdx]
 cases sl[q]? <;> simp
theorem ownAt_times (sl : List Slot) (p : Nat) (o : Option Int) : (ownAt sl p o).map (·.time) = sl.map (·.time) := by
 apply List.ext_getElem?
 intro q
 rw [List.getElem?_map, List.getElem?_map, ownAt_get]
 cases sl[q]? with
 | none => rfl
 | some x =>
  by_cases e : q = p
  ·simp [e]
  ·simp [e]
theorem ownAt_len (sl : List Slot) (p : Nat) (o : Option Int) : (ownAt sl p o).length = sl.length := len_times (ownAt_times sl p o)
theorem ownAt_t (sl : List Slot) (p : Nat) (o : Option Int) (q : Nat) : tOf (ownAt sl p o) q = tOf sl q := tOf_times (ownAt_times sl p o) q
theorem ownAt_o (sl : List Slot) (p : Nat) (o : Option Int) (q : Nat) : oOf (ownAt sl p o) q = if q = p /\ p < sl.length then o else oOf sl q := by
 unfold oOf
 rw [ownAt_get]
 by_cases e : q = p
 ·subst e
  cases h : sl[q]? with
  | none =>
   have : ¬ q < sl.length := by simpa using h
   simp [this]
  | some x =>
   have := (List.getElem?_eq_some_iff.mp h).1
   simp [this]
 ·cases h : sl[q]? <;> simp [e]
theorem SOk.ownAt {sl : List Slot} (h : SOk sl) (p : Nat) {o : Option Int} (ho : ∀ c, o = some c -> 0 <= c /\ c <= 675) : SOk (ownAt sl p o) := by
 refine h.of_times (ownAt_times sl p o) fun q c e => ?_
 rw [ownAt_o] at e
 split at e
 ·exact ho c e
 ·exact h.ownO e
theorem ownAt_set (sl : List Slot) (p : Nat) (o : Option Int) {x : Slot} (hx : sl[p]? = some x) : ownAt sl p o = sl.set p { x with owner := o } := by
 apply List.ext_getElem?
 intro q
 rw [ownAt_get]
 by_cases e : q = p
 ·subst e
  rw [hx, List.getElem?_set_self (List.getElem?_eq_some_iff.mp hx).1]
  simp
 ·rw [List.getElem?_set_ne (Ne.symm e)]
  cases sl[q]? <;> simp [e]
structure FOk (sl : List Slot) (g : Bool) (f : Flight) : Prop where
 id0 : 0 <= f.id
 id1 : f.id <= 999999
 c0 : 0 <= f.carrier
 c1 : f.carrier <= 675
 s0 : 0 <= f.sched
 s1 : f.sched <= f.ready
 r1 : f.ready <= 52595999
 w0 : 1 <= f.weight
 w1 : f.weight <= 1000
 gone : f.gone = true -> f.place = none
 place : ∀ p, f.place = some p -> p < sl.length /\ f.ready <= tOf sl p /\ oOf sl p = some f.carrier
 ung : g = false -> f.place = none
 giv : g = true -> f.gone = false -> ∃ p, f.place = some p
structure Wf (s : State) : Prop where
 so : SOk s.slots
 ids : s.flights.Pairwise (fun a b => a.id < b.id)
 nfl : s.flights.length <= 60
 fo : ∀ f ∈ s.flights, FOk s.slots s.given f
 inj : ∀ f ∈ s.flights, ∀ g ∈ s.flights, ∀ p, f.place = some p -> g.place = some p -> f = g
theorem pw_id {l : List Flight} (h : l.Pairwise (fun a b => a.id < b.id)) {f g : Flight} (hf : f ∈ l) (hg : g ∈ l) (e : f.id = g.id) : f = g := by
 obtain ⟨i, hi, rfl⟩ := List.mem_iff_getElem.mp hf
 obtain ⟨j, hj, rfl⟩ := List.mem_iff_getElem.mp hg
 by_cases a : i = j
 ·subst a; rfl
 ·rcases Nat.lt_or_gt_of_ne a with b | b
  ·have := List.pairwise_iff_getElem.mp h i j hi hj b; omega
  ·have := List.pairwise_iff_getElem.mp h j i hj hi b; omega
theorem Wf.id_inj {s : State} (w : Wf s) {f g : Flight} (hf : f ∈ s.flights) (hg : g ∈ s.flights) (e : f.id = g.id) : f = g := pw_id w.ids hf hg e
theorem start_wf : Wf start :=
 ⟨⟨List.Pairwise.nil, fun _ h => (List.not_mem_nil h).elim, Nat.zero_le _, fun _ h => (List.not_mem_nil h).elim⟩, List.Pairwise.nil, Nat.zero_le _, fun _ h => (List.not_mem_nil h).elim, fun _ h => (List.not_mem_nil h).elim⟩
theorem Wf.upd {s : State} (w : Wf s) (sl' : List Slot) (φ : Flight -> Flight) (g' : Bool) (hsl : SOk sl') (hid : ∀ f ∈ s.flights, (φ f).id = f.id) (hf : ∀ f ∈ s.flights, FOk sl' g' (φ f))
  (hinj : ∀ f ∈ s.flights, ∀ g ∈ s.flights, ∀ p, (φ f).place = some p -> (φ g).place = some p -> f = g) : Wf { slots := sl', flights := s.flights.map φ, given := g' } := by
 refine ⟨hsl, ?_, by show (s.flights.map φ).length <= 60; rw [List.length_map]; exact w.nfl, fun f h => ?_, fun f h g h' p e e' => ?_⟩
 ·show (s.flights.map φ).Pairwise _
  rw [List.pairwise_map]
  exact w.ids.imp_of_mem fun {a b} ha hb h => by rw [hid a ha, hid b hb]; exact h
 ·obtain ⟨x, hx, rfl⟩ := List.mem_map.mp h
  exact hf x hx
 ·obtain ⟨x, hx, rfl⟩ := List.mem_map.mp h
  obtain ⟨y, hy, rfl⟩ := List.mem_map.mp h'
  rw [hinj x hx y hy p e e']
theorem flightOf_some {s : State} {i : Int} {f : Flight} (h : flightOf s i = some f) : f ∈ s.flights /\ f.id = i :=
 ⟨List.mem_of_find?_eq_some h, of_decide_eq_true (List.find?_some (p := fun (f : Flight) => decide (f.id = i)) h)⟩
theorem flightOf_none {s : State} {i : Int} (h : flightOf s i = none) : ∀ f ∈ s.flights, f.id ≠ i := fun f hf e => by
 have := List.find?_eq_none.mp h f hf
 simp [e] at this
theorem Wf.flightOf {s : State} (w : Wf s) {f : Flight} (hf : f ∈ s.flights) : flightOf s f.id = some f := by
 cases h : Vbahas.flightOf s f.id with
 | none => exact (flightOf_none h f hf rfl).elim
 | some g => rw [w.id_inj (flightOf_some h).1 hf (flightOf_some h).2]
theorem isOpen_iff {s : State} (w : Wf s) (p : Nat) : isOpen s p = true ↔ ∀ f ∈ s.flights, f.place ≠ some p := by
 unfold isOpen holder live
 rw [Option.isNone_iff_eq_none, List.find?_eq_none]
 constructor
 ·intro h f hf e
  have hg : f.gone = false := by
   cases q : f.gone with
   | false => rfl
   | true => rw [(w.fo f hf).gone q] at e; cases e
  have := h f (List.mem_filter.mpr ⟨hf, by simp [hg]⟩)
  simp [e] at this
 ·intro h f hf
  have := h f (List.mem_filter.mp hf).1
  simp [this]
def putF (f : Flight) (g : Flight) : Flight := if g.id = f.id then f else g
theorem putF_id {f g : Flight} : (putF f g).id = g.id := by
 unfold putF; split
 ·rename_i h; exact h.symm
 ·rfl
theorem putF_cases (f g : Flight) : (g.id = f.id /\ putF f g = f) \/ (g.id ≠ f.id /\ putF f g = g) := by
 unfold putF
 by_cases h : g.id = f.id
 ·exact .inl ⟨h, if_pos h⟩
 ·exact .inr ⟨h, if_neg h⟩
theorem FOk.slots {sl sl' : List Slot} {g : Bool} {f : Flight} (h : FOk sl g f) (hl : sl.length <= sl'.length) (ht : ∀ p, f.place = some p -> tOf sl' p = tOf sl p) (ho : ∀ p, f.place = some p -> oOf sl' p = oOf sl p) : FOk sl' g f :=
 { h with place := fun p e => ⟨Nat.lt_of_lt_of_le (h.place p e).1 hl, (by rw [ht p e]; exact (h.place p e).2.1), (by rw [ho p e]; exact (h.place p e).2.2)⟩ }
theorem Wf.put {s : State} (w : Wf s) {f f' : Flight} (hf : f ∈ s.flights) (hi : f'.id = f.id) {sl' : List Slot} (hs : SOk sl') (hok : FOk sl' s.given f') (hot : ∀ g ∈ s.flights, g.id ≠ f.id -> FOk sl' s.given g)
  (hp : ∀ p, f'.place = some p -> ∀ g ∈ s.flights, g.id ≠ f.id -> g.place ≠ some p) : Wf { slots := sl', flights := s.flights.map (putF f'), given := s.given } := by
 refine w.upd sl' (putF f') s.given hs (fun _ _ => putF_id) (fun g hg => ?_) fun g hg k hk p e e' => ?_
 ·rcases putF_cases f' g with ⟨a, b⟩ | ⟨a, b⟩
  ·rw [b]; exact hok
  ·rw [b]; exact hot g hg (by rw [<- hi]; exact a)
 ·rcases putF_cases f' g with ⟨a, b⟩ | ⟨a, b⟩ <;> rcases putF_cases f' k with ⟨c, d⟩ | ⟨c, d⟩
  ·exact w.id_inj hg hk (a.trans c.symm)
  ·rw [b] at e; rw [d] at e'
   exact (hp p e k hk (by rw [<- hi]; exact c) e').elim
  ·rw [b] at e; rw [d] at e'
   exact (hp p e' g hg (by rw [<- hi]; exact a) e).elim
  ·rw [b] at e; rw [d] at e'
   exact w.inj g hg k hk p e e'
end SH
end
section
namespace SH
open Vbahas
def moreSlots (a g : Int) (n : Nat) : List Slot := (List.range n).map fun (i : Nat) => { time := a + g * (i : Int), owner := none }
theorem moreSlots_len (a g : Int) (n : Nat) : (moreSlots a g n).length = n := by simp [moreSlots]
theorem oOf_append_left {sl r : List Slot} {p : Nat} (h : p < sl.length) : oOf (sl ++ r) p = oOf sl p := by
 unfold oOf; rw [List.getElem?_append_left h]
theorem tOf_append_left {sl r : List Slot} {p : Nat} (h : p < sl.length) : tOf (sl ++ r) p = tOf sl p := by
 unfold tOf; rw [List.getElem?_append_left h]
theorem slots_so {sl : List Slot} (w : SOk sl) {a g : Int} {n : Nat} (ha : 0 <= a) (hg : 1 <= g) (h1 : ∀ x ∈ sl, x.time < a) (h2 : a + g * ((n : Int) - 1) <= 52595999) (h3 : sl.length + n <= 120) : SOk (sl ++ moreSlots a g n) := by
 have mem : ∀ x ∈ moreSlots a g n, ∃ i : Nat, i < n /\ x = { time := a + g * (i : Int), owner := none } := fun x hx => by
  obtain ⟨i, hi, rfl⟩ := List.mem_map.mp hx
  exact ⟨i, List.mem_range.mp hi, rfl⟩
 have mul0 : ∀ i : Nat, 0 <= g * (i : Int) := fun i => Int.mul_nonneg (by omega) (by omega)
 have mulm : ∀ i j : Nat, i < j -> g * (i : Int) < g * (j : Int) := fun i j h => Int.mul_lt_mul_of_pos_left (by omega) (by omega)
 have mule : ∀ i : Nat, i < n -> g * (i : Int) <= g * ((n : Int) - 1) := fun i h => Int.mul_le_mul_of_nonneg_left (by omega) (by omega)
 refine ⟨List.pairwise_append.mpr ⟨w.up, ?_, fun x hx y hy => ?_⟩, fun x hx => ?_, ?_, fun x hx c hc => ?_⟩
 ·unfold moreSlots
  rw [List.pairwise_map]
  refine List.pairwise_lt_range.imp fun {i j} h => ?_
  have := mulm i j h
  show a + g * (i : Int) < a + g * (j : Int)
  omega
 ·obtain ⟨i, hi, rfl⟩ := mem y hy
  have := h1 x hx
  have := mul0 i
  show x.time < a + g * (i : Int)
  omega
 ·rcases List.mem_append.mp hx with hx | hx
  ·exact w.rng x hx
  ·obtain ⟨i, hi, rfl⟩ := mem x hx
   have := mul0 i
   have := mule i hi
   show 0 <= a + g * (i : Int) /\ a + g * (i : Int) <= 52595999
   omega
 ·rw [List.length_append, moreSlots_len]; exact h3
 ·rcases List.mem_append.mp hx with hx | hx
  ·exact w.own x hx c hc
  ·obtain ⟨i, hi, rfl⟩ := mem x hx
   cases hc
theorem slots_wf {s : State} (w : Wf s) {a g : Int} {n : Nat} (ha : 0 <= a) (hg : 1 <= g) (h1 : ∀ x ∈ s.slots, x.time < a) (h2 : a + g * ((n : Int) - 1) <= 52595999) (h3 : s.slots.length + n <= 120) :
  Wf { s with slots := s.slots ++ moreSlots a g n } := by
 refine ⟨slots_so w.so ha hg h1 h2 h3, w.ids, w.nfl, fun f hf => ?_, w.inj⟩
 exact (w.fo f hf).slots (by show _ <= (s.slots ++ _).length; rw [List.length_append]; omega) (fun p e => tOf_append_left ((w.fo f hf).place p e).1) fun p e => oOf_append_left ((w.fo f hf).place p e).1
theorem withFlight_perm {l : List Flight} {f : Flight} (hn : ∀ g ∈ l, g.id ≠ f.id) : (withFlight l f).Perm (f :: l) := by
 unfold withFlight
 refine (List.perm_middle).trans (List.Perm.cons f ?_)
 have e : (l.filter fun x => decide (f.id < x.id)) = l.filter fun x => !(decide (x.id < f.id)) := by
  apply List.filter_congr
  intro x hx
  have := hn x hx
  by_cases h : x.id < f.id
  ·have : ¬ f.id < x.id := by omega
   simp [h, this]
  ·have : f.id < x.id := by omega
   simp [h, this]
 rw [e]
 exact List.filter_append_perm _ l
theorem Wf.add {s : State} (w : Wf s) {f : Flight} (hn : ∀ g ∈ s.flights, g.id ≠ f.id) (hl : s.flights.length < 60) {sl' : List Slot} (hs : SOk sl') (hok : FOk sl' s.given f) (hot : ∀ g ∈ s.flights, FOk sl' s.given g)
  (hp : ∀ p, f.place = some p -> ∀ g ∈ s.flights, g.place ≠ some p) : Wf { slots := sl', flights := withFlight s.flights f, given := s.given } := by
 have P := withFlight_perm hn
 have mem : ∀ x, x ∈ withFlight s.flights f -> x = f \/ x ∈ s.flights := fun x hx => by
  have := P.mem_iff.mp hx
  exact List.mem_cons.mp this
 refine ⟨hs, ?_, ?_, fun x hx => ?_, fun x hx y hy p e e' => ?_⟩
 ·show (withFlight s.flights f).Pairwise _
  unfold withFlight
  refine List.pairwise_append.mpr ⟨w.ids.filter _, List.pairwise_cons.mpr ⟨fun x hx => ?_, w.ids.filter _⟩, fun x hx y hy => ?_⟩
  ·simpa using (List.mem_filter.mp hx).2
  ·have h1 : x.id < f.id := by simpa using (List.mem_filter.mp hx).2
   rcases List.mem_cons.mp hy with rfl | hy
   ·exact h1
   ·have h2 : f.id < y.id := by simpa using (List.mem_filter.mp hy).2
    omega
 ·show (withFlight s.flights f).length <= 60
  rw [P.length_eq]
  exact hl
 ·rcases mem x hx with rfl | h
  ·exact hok
  ·exact hot x h
 ·rcases mem x hx with rfl | h <;> rcases mem y hy with rfl | h'
  ·rfl
  ·exact (hp p e y h' e').elim
  ·exact (hp p e' x h e).elim
  ·exact w.inj x h y h' p e e'
theorem spare_some {s : State} (w : Wf s) {f : Flight} {own : Bool} {p : Nat} (h : spare s f own = some p) :
  p < s.slots.length /\ f.ready <= tOf s.slots p /\ (∀ g ∈ s.flights, g.place ≠ some p) /\ (oOf s.slots p = none \/ (own = true /\ oOf s.slots p = some f.carrier)) := by
 have h1 := List.find?_some h
 simp only [Bool.and_eq_true, Bool.or_eq_true, decide_eq_true_eq, fitsAt] at h1
 obtain ⟨⟨a, b⟩, c, d⟩ := h1
 exact ⟨a, b, (isOpen_iff w p).mp c, d⟩
theorem flight_wf {s : State} (w : Wf s) {f : Flight} (hn : ∀ g ∈ s.flights, g.id ≠ f.id) (hl : s.flights.length < 60) {p : Nat} (hp : spare s f false = some p) (hg : s.given = true)
  (hok : 0 <= f.id /\ f.id <= 999999 /\ 0 <= f.carrier /\ f.carrier <= 675 /\ 0 <= f.sched /\ f.sched <= f.ready /\ f.ready <= 52595999 /\ 1 <= f.weight /\ f.weight <= 1000) (hgone : f.gone = false) :
  Wf (setOwner { s with flights := withFlight s.flights { f with place := some p } } p (some f.carrier)) := by
 obtain ⟨h1, h2, h3, h4⟩ := spare_some w hp
 have nn : oOf s.slots p = none := by rcases h4 with h | ⟨h, _⟩; exact h; cases h
 obtain ⟨a1, a2, a3, a4, a5, a6, a7, a8, a9⟩ := hok
 refine w.add (f := { f with place := some p }) (sl' := ownAt s.slots p (some f.carrier)) hn hl (w.so.ownAt p fun c e => by cases e; exact ⟨a3, a4⟩) ?_ (fun g hg' => ?_) fun q e g hg' => ?_
 ·refine ⟨a1, a2, a3, a4, a5, a6, a7, a8, a9, fun e => (by rw [hgone] at e; cases e), fun q e => ?_, fun e => (by rw [hg] at e; cases e), fun _ _ => ⟨p, rfl⟩⟩
  cases e
  refine ⟨by rw [ownAt_len]; exact h1, by rw [ownAt_t]; exact h2, by rw [ownAt_o, if_pos ⟨rfl, h1⟩]⟩
 ·refine (w.fo g hg').slots (Nat.le_of_eq (ownAt_len _ _ _).symm) (fun q _ => ownAt_t _ _ _ _) fun q e => ?_
  rw [ownAt_o, if_neg (fun (z : q = p /\ _) => h3 g hg' (z.1 ▸ e))]
 ·cases e
  exact h3 g hg'
theorem flight0_wf {s : State} (w : Wf s) {f : Flight} (hn : ∀ g ∈ s.flights, g.id ≠ f.id) (hl : s.flights.length < 60) (hg : s.given = false) (hp : f.place = none)
  (hok : 0 <= f.id /\ f.id <= 999999 /\ 0 <= f.carrier /\ f.carrier <= 675 /\ 0 <= f.sched /\ f.sched <= f.ready /\ f.ready <= 52595999 /\ 1 <= f.weight /\ f.weight <= 1000) :
  Wf { s with flights := withFlight s.flights f } := by
 obtain ⟨a1, a2, a3, a4, a5, a6, a7, a8, a9⟩ := hok
 refine w.add hn hl w.so ⟨a1, a2, a3, a4, a5, a6, a7, a8, a9, fun _ => hp, fun q e => (by rw [hp] at e; cases e), fun _ => hp, fun e => (by rw [hg] at e; cases e)⟩ w.fo fun q e => (by rw [hp] at e; cases e)
theorem setFlight_wf {s : State} (w : Wf s) {f f' : Flight} (hf : f ∈ s.flights) (hi : f'.id = f.id) (hok : FOk s.slots s.given f') (hp : f'.place = f.place \/ f'.place = none) : Wf (setFlight s f') := by
 refine w.put hf hi w.so hok (fun g hg _ => w.fo g hg) fun p e g hg ne e' => ?_
 rcases hp with hp | hp
 ·rw [hp] at e
  exact ne (by rw [w.inj g hg f hf p e' e])
 ·rw [hp] at e; cases e
theorem moved_wf {s : State} (w : Wf s) {f f' : Flight} (hf : f ∈ s.flights) (hi : f'.id = f.id) (hc : f'.carrier = f.carrier) {p : Nat} (hp : f'.place = some p) (hfree : ∀ g ∈ s.flights, g.place ≠ some p) (hpl : p < s.slots.length)
  (hok : FOk (ownAt s.slots p (some f.carrier)) s.given f') : Wf (setOwner (setFlight s f') p (some f.carrier)) := by
 have hfo := w.fo f hf
 refine w.put (sl' := ownAt s.slots p (some f.carrier)) hf hi (w.so.ownAt p fun c e => by cases e; exact ⟨hfo.c0, hfo.c1⟩) hok (fun g hg _ => ?_) fun q e g hg _ => ?_
 ·refine (w.fo g hg).slots (Nat.le_of_eq (ownAt_len _ _ _).symm) (fun q _ => ownAt_t _ _ _ _) fun q e => ?_
  rw [ownAt_o, if_neg (fun (z : q = p /\ _) => hfree g hg (z.1 ▸ e))]
 ·rw [hp] at e; cases e; exact hfree g hg
theorem inTurn_some {s : State} : ∀ {l : List Flight} {taken : List Nat} {r : List (Flight × Nat)}, inTurn s l taken = some r ->
  r.map (·.1) = l /\ (r.map (·.2)).Nodup /\ ∀ y ∈ r, fitsAt s y.1 y.2 = true /\ y.2 ∉ taken
 | [], taken, r, h => by
  simp only [inTurn, Option.some.injEq] at h
  subst h
  exact ⟨rfl, List.nodup_nil, fun _ h => (List.not_mem_nil h).elim⟩
 | f :: l, taken, r, h => by
  unfold inTurn at h
  cases h1 : firstFor s f taken with
  | none => rw [h1] at h; cases h
  | some p =>
   rw [h1] at h
   simp only at h
   cases h2 : inTurn s l (p :: taken) with
   | none => rw [h2] at h; cases h
   | some r' =>
    rw [h2] at h
    simp only [Option.some.injEq] at h
    subst h
    obtain ⟨a, b, c⟩ := inTurn_some h2
    have hp := List.find?_some h1
    simp only [Bool.and_eq_true, Bool.not_eq_true', List.contains_eq_mem, decide_eq_false_iff_not] at hp
    refine ⟨by simp [a], List.nodup_cons.mpr ⟨fun hm => ?_, b⟩, fun y hy => ?_⟩
    ·obtain ⟨y, hy, e⟩ := List.mem_map.mp hm
     exact (c y hy).2 (by rw [show y.2 = p from e]; exact List.mem_cons_self)
    ·rcases List.mem_cons.mp hy with rfl | hy
     ·exact hp
     ·exact ⟨(c y hy).1, fun z => (c y hy).2 (List.mem_cons_of_mem _ z)⟩
theorem putBy_perm (key : Flight -> List Int) (f : Flight) : ∀ l, (putBy key f l).Perm (f :: l)
 | [] => List.Perm.refl _
 | g :: r => by
  unfold putBy
  split
  ·exact List.Perm.refl _
  ·exact (List.Perm.cons g (putBy_perm key f r)).trans (List.Perm.swap f g r)
theorem sortBy_perm (key : Flight -> List Int) : ∀ l, (sortBy key l).Perm l
 | [] => List.Perm.refl _
 | f :: l => (putBy_perm key f (sortBy key l)).trans (List.Perm.cons f (sortBy_perm key l))
theorem find_of_nodup {α β : Type} [DecidableEq β] {l : List α} {k : α -> β} (hn : (l.map k).Nodup) {x : α} (hx : x ∈ l) {b : β} (hb : k x = b) : l.find? (fun y => decide (k y = b)) = some x := by
 subst hb
 induction l with
 | nil => cases hx
 | cons a l ih =>
  rw [List.map_cons, List.nodup_cons] at hn
  rcases List.mem_cons.mp hx with rfl | h
  ·simp
  ·have : k a ≠ k x := fun e => hn.1 (by rw [e]; exact List.mem_map_of_mem h)
   rw [List.find?_cons]
   simp [this]
   exact ih hn.2 h
theorem ids_nodup {l : List Flight} (h : l.Pairwise (fun a b => a.id < b.id)) : (l.map (·.id)).Nodup := by
 rw [List.nodup_iff_pairwise_ne, List.pairwise_map]
 exact h.imp fun {a b} h => by omega
theorem ration_wf {s t : State} (w : Wf s) (h : ration s = some t) : Wf t := by
 unfold ration at h
 cases h1 : inTurn s (sortBy rank s.flights) [] with
 | none => rw [h1] at h; cases h
 | some l =>
  rw [h1] at h
  simp only [Option.some.injEq] at h
  subst h
  obtain ⟨a, b, c⟩ := inTurn_some h1
  have P : (l.map (·.1)).Perm s.flights := by rw [a]; exact sortBy_perm _ _
  have idn : (l.map fun y => y.1.id).Nodup := by
   have := (P.map (·.id)).nodup_iff.mpr (ids_nodup w.ids)
   rw [List.map_map] at this
   exact this
  have hmem : ∀ y ∈ l, y.1 ∈ s.flights := fun y hy => P.mem_iff.mp (List.mem_map_of_mem hy)
  have hfind : ∀ f ∈ s.flights, ∃ p, (f, p) ∈ l /\ (l.find? fun y => decide (y.1.id = f.id)) = some (f, p) := fun f hf => by
   obtain ⟨y, hy, e⟩ := List.mem_map.mp (P.mem_iff.mpr hf)
   obtain ⟨f', p⟩ := y
   have e : f' = f := e
   subst e
   exact ⟨p, hy, find_of_nodup (k := fun (y : Flight × Nat) => y.1.id) idn hy rfl⟩
  refine w.upd _ _ true ?_ (fun f _ => rfl) (fun f hf => ?_) fun f hf g hg p e e' => ?_
  ·refine w.so.of_times ?_ fun q c' e => ?_
   ·apply List.ext_getElem?
    intro q
    simp only [List.getElem?_map, List.getElem?_zipIdx]
    cases s.slots[q]? <;> simp
   ·unfold oOf at e
    simp only [List.getElem?_map, List.getElem?_zipIdx] at e
    cases h2 : s.slots[q]? with
    | none => rw [h2] at e; cases e
    | some x =>
     rw [h2] at e
     simp only [Option.map_some, Nat.zero_add, Option.map_eq_some_iff] at e
     obtain ⟨y, hy, rfl⟩ := e
     have := w.fo _ (hmem y (List.mem_of_find?_eq_some hy))
     exact ⟨this.c0, this.c1⟩
  ·have hfo := w.fo f hf
   obtain ⟨p, hp, ef⟩ := hfind f hf
   have hc := c _ hp
   simp only [fitsAt, Bool.and_eq_true, decide_eq_true_eq] at hc
   have hlen : (s.slots.zipIdx.map fun (x : Slot × Nat) => { x.1 with owner := (l.find? fun (y : Flight × Nat) => decide (y.2 = x.2)).map fun (y : Flight × Nat) => y.1.carrier }).length = s.slots.length := by simp
   have plc : ∀ q, (if f.gone = true then none else (l.find? fun y => decide (y.1.id = f.id)).map fun y => y.2) = some q -> f.gone = false /\ q = p := fun q e => by
    rw [ef] at e
    cases h3 : f.gone <;> rw [h3] at e
    ·simp at e; exact ⟨rfl, e.symm⟩
    ·simp at e
   refine { hfo with gone := fun e => ?_, place := fun q e => ?_, ung := fun e => (by cases e), giv := fun _ e => ?_ }
   ·show (if f.gone = true then _ else _) = none
    rw [if_pos e]
   ·obtain ⟨_, rfl⟩ := plc q e
    refine ⟨by rw [hlen]; exact hc.1.1, ?_, ?_⟩
    ·rw [tOf_times (sl := s.slots)]
     ·exact hc.1.2
     ·apply List.ext_getElem?
      intro q
      simp only [List.getElem?_map, List.getElem?_zipIdx]
      cases s.slots[q]? <;> simp
    ·unfold oOf
     simp only [List.getElem?_map, List.getElem?_zipIdx, List.getElem?_eq_getElem hc.1.1]
     simp only [Option.map_some, Nat.zero_add]
     rw [find_of_nodup (k := fun (y : Flight × Nat) => y.2) b hp rfl]
     rfl
   ·refine ⟨p, ?_⟩
    show (if f.gone = true then none else (l.find? fun y => decide (y.1.id = f.id)).map fun y => y.2) = some p
    rw [if_neg (by rw [show f.gone = false from e]; simp), ef]
    rfl
  ·obtain ⟨pf, hpf, ef⟩ := hfind f hf
   obtain ⟨pg, hpg, eg⟩ := hfind g hg
   have e1 : pf = p := by
    have e : (if f.gone = true then none else (l.find? fun y => decide (y.1.id = f.id)).map fun y => y.2) = some p := e
    rw [ef] at e; split at e; cases e; simpa using e
   have e2 : pg = p := by
    have e' : (if g.gone = true then none else (l.find? fun y => decide (y.1.id = g.id)).map fun y => y.2) = some p := e'
    rw [eg] at e'; split at e'; cases e'; simpa using e'
   subst e1
   subst e2
   have x1 := find_of_nodup (k := fun (y : Flight × Nat) => y.2) b hpf rfl
   have x2 := find_of_nodup (k := fun (y : Flight × Nat) => y.2) b hpg rfl
   rw [x1] at x2
   have := Option.some.inj x2
   exact congrArg Prod.fst this
end SH
end
section
namespace SH
open Vbahas
theorem mem_sortBy {key : Flight -> List Int} {l : List Flight} {f : Flight} : f ∈ sortBy key l ↔ f ∈ l := (sortBy_perm key l).mem_iff
theorem nearest_mem {l : List Flight} {f : Flight} (h : nearest l = some f) : f ∈ l := mem_sortBy.mp (List.mem_of_head? h)
theorem comer_some {s : State} {p : Nat} {f : Flight} (h : comer s p = some f) : f ∈ s.flights /\ mayCome s p f = true := by
 unfold comer at h
 simp only at h
 split at h
 ·rename_i g hg
  cases h
  have h1 := nearest_mem hg
  exact List.mem_filter.mp (List.mem_filter.mp h1).1
 ·exact List.mem_filter.mp (nearest_mem h)
theorem mayCome_iff {s : State} {p : Nat} {f : Flight} : mayCome s p f = true ↔ f.gone = false /\ (∃ q, f.place = some q /\ p < q) /\ p < s.slots.length /\ f.ready <= tOf s.slots p := by
 unfold mayCome fitsAt
 rw [timeOf_eq]
 cases f.place with
 | none => simp
 | some q => simp [and_assoc]
theorem moveUp_wf {s : State} (w : Wf s) {p : Nat} {f : Flight} (ho : isOpen s p = true) (hf : f ∈ s.flights) (hm : mayCome s p f = true) : Wf (moveUp s p f) := by
 obtain ⟨hg, ⟨q, hq, hpq⟩, hpl, hr⟩ := mayCome_iff.mp hm
 have hfree := (isOpen_iff w p).mp ho
 have hfo := w.fo f hf
 obtain ⟨hql, _, hqo⟩ := hfo.place q hq
 have e : moveUp s p f = { slots := ownAt (ownAt s.slots q (oOf s.slots p)) p (some f.carrier), flights := s.flights.map (putF { f with place := some p }), given := s.given } := by
  unfold moveUp
  rw [hq]
  rfl
 rw [e]
 have so1 : SOk (ownAt s.slots q (oOf s.slots p)) := w.so.ownAt q fun c e => w.so.ownO e
 refine w.put (f' := { f with place := some p }) hf rfl (so1.ownAt p fun c e => by cases e; exact ⟨hfo.c0, hfo.c1⟩) ?_ (fun g hg' ne => ?_) fun r er g hg' _ => ?_
 ·refine { hfo with gone := fun e => (by rw [hg] at e; cases e), place := fun r e => ?_, ung := fun e => (by rw [hfo.ung e] at hq; cases hq), giv := fun _ _ => ⟨p, rfl⟩ }
  cases e
  refine ⟨by rw [ownAt_len, ownAt_len]; exact hpl, by rw [ownAt_t, ownAt_t]; exact hr, by rw [ownAt_o, ownAt_len, if_pos ⟨rfl, hpl⟩]⟩
 ·refine (w.fo g hg').slots (by rw [ownAt_len, ownAt_len]; exact Nat.le_refl _) (fun r _ => by rw [ownAt_t, ownAt_t]) fun r e => ?_
  rw [ownAt_o, if_neg (fun (z : r = p /\ _) => hfree g hg' (z.1 ▸ e)), ownAt_o, if_neg (fun (z : r = q /\ _) => ne (by rw [w.inj g hg' f hf q (z.1 ▸ e) hq]))]
 ·cases er
  exact hfree g hg'
theorem passOn_wf : ∀ (k p : Nat) {s : State}, Wf s -> Wf (passOn k p s).1
 | 0, p, s, w => w
 | k + 1, p, s, w => by
  unfold passOn
  split
  ·rename_i ho
   split
   ·exact passOn_wf k (p + 1) w
   ·rename_i f hf
    obtain ⟨h1, h2⟩ := comer_some hf
    exact passOn_wf k (p + 1) (moveUp_wf w ho h1 h2)
  ·exact passOn_wf k (p + 1) w
theorem head_none {key : Flight -> List Int} {l : List Flight} (h : (sortBy key l).head? = none) : l = [] := by
 have h1 : sortBy key l = [] := List.head?_eq_none_iff.mp h
 have := (sortBy_perm key l).length_eq
 rw [h1] at this
 exact List.eq_nil_of_length_eq_zero this.symm
theorem byWeight_mem {s : State} : ∀ {ps : List Nat} {l : List Flight} {y : Flight × Nat}, y ∈ byWeight s ps l -> y.1 ∈ l /\ y.2 ∈ ps /\ fitsAt s y.1 y.2 = true
 | [], l, y, h => (List.not_mem_nil h).elim
 | p :: r, l, y, h => by
  unfold byWeight at h
  split at h
  ·obtain ⟨a, b, c⟩ := byWeight_mem h
   exact ⟨a, List.mem_cons_of_mem _ b, c⟩
  ·rename_i f hf
   have hf' := List.mem_filter.mp (mem_sortBy.mp (List.mem_of_head? hf))
   rcases List.mem_cons.mp h with rfl | h
   ·exact ⟨hf'.1, List.mem_cons_self, hf'.2⟩
   ·obtain ⟨a, b, c⟩ := byWeight_mem h
    exact ⟨(List.mem_filter.mp a).1, List.mem_cons_of_mem _ b, c⟩
theorem byWeight_nodup {s : State} : ∀ {ps : List Nat} {l : List Flight}, ps.Nodup -> ((byWeight s ps l).map (·.2)).Nodup /\ ((byWeight s ps l).map (·.1.id)).Nodup
 | [], l, _ => ⟨List.nodup_nil, List.nodup_nil⟩
 | p :: r, l, hn => by
  obtain ⟨hp, hr⟩ := List.nodup_cons.mp hn
  unfold byWeight
  split
  ·exact byWeight_nodup hr
  ·rename_i f hf
   refine ⟨List.nodup_cons.mpr ⟨fun hm => ?_, (byWeight_nodup hr).1⟩, List.nodup_cons.mpr ⟨fun hm => ?_, (byWeight_nodup hr).2⟩⟩
   ·obtain ⟨y, hy, e⟩ := List.mem_map.mp hm
    exact hp (by rw [<- show y.2 = p from e]; exact (byWeight_mem hy).2.1)
   ·obtain ⟨y, hy, e⟩ := List.mem_map.mp hm
    have := (List.mem_filter.mp (byWeight_mem hy).1).2
    have e : y.1.id = f.id := e
    simp [e] at this
theorem byWeight_all {s : State} (so : SOk s.slots) : ∀ {ps : List Nat} {l : List Flight} (m : Int -> Nat), ps.Pairwise (· < ·) -> (∀ f ∈ l, ∀ g ∈ l, f.id = g.id -> f = g) -> (∀ f ∈ l, m f.id ∈ ps /\ fitsAt s f (m f.id) = true) ->
  (∀ f ∈ l, ∀ g ∈ l, m f.id = m g.id -> f.id = g.id) -> ∀ f ∈ l, ∃ p, (f, p) ∈ byWeight s ps l
 | [], l, m, _, _, h, _, f, hf => (List.not_mem_nil (h f hf).1).elim
 | p :: r, l, m, hp, hid, h, hi, f, hf => by
  obtain ⟨hp1, hp2⟩ := List.pairwise_cons.mp hp
  unfold byWeight
  split
  ·rename_i hn
   have hnil := head_none hn
   have nofit : ∀ g ∈ l, ¬ fitsAt s g p = true := fun g hg e => by
    have : g ∈ l.filter fun f => fitsAt s f p := List.mem_filter.mpr ⟨hg, e⟩
    rw [hnil] at this
    exact List.not_mem_nil this
   refine byWeight_all so m hp2 hid (fun g hg => ⟨?_, (h g hg).2⟩) hi f hf
   rcases List.mem_cons.mp (h g hg).1 with e | e
   ·exact (nofit g hg (by rw [<- e]; exact (h g hg).2)).elim
   ·exact e
  ·rename_i g hg
   have hg' := List.mem_filter.mp (mem_sortBy.mp (List.mem_of_head? hg))
   have hgl := hg'.1
   by_cases e : f.id = g.id
   ·exact ⟨p, by rw [hid f hf g hgl e]; exact List.mem_cons_self⟩
   ·have hf2 : f ∈ l.filter fun x => decide (x.id ≠ g.id) := List.mem_filter.mpr ⟨hf, by simp [e]⟩
    have sub : ∀ x ∈ l.filter fun x => decide (x.id ≠ g.id), x ∈ l /\ x.id ≠ g.id := fun x hx => ⟨(List.mem_filter.mp hx).1, by simpa using (List.mem_filter.mp hx).2⟩
    have k1 : ∀ x ∈ l.filter fun x => decide (x.id ≠ g.id), (if m x.id = p then m g.id else m x.id) ∈ r /\ fitsAt s x (if m x.id = p then m g.id else m x.id) = true := by
     intro x hx
     obtain ⟨hxl, hxg⟩ := sub x hx
     obtain ⟨a, b⟩ := h x hxl
     obtain ⟨c, d⟩ := h g hgl
     by_cases e1 : m x.id = p
     ·simp only [if_pos e1]
      have hgp : m g.id ≠ p := fun e2 => hxg (hi x hxl g hgl (e1.trans e2.symm))
      have hgr : m g.id ∈ r := by
       rcases List.mem_cons.mp c with e3 | e3
       ·exact (hgp e3).elim
       ·exact e3
      refine ⟨hgr, ?_⟩
      have hlt := hp1 _ hgr
      simp only [fitsAt, Bool.and_eq_true, decide_eq_true_eq] at b d ⊢
      rw [e1] at b
      have := so.lt hlt d.1
      exact ⟨d.1, Int.le_trans b.2 (Int.le_of_lt this)⟩
     ·simp only [if_neg e1]
      refine ⟨?_, b⟩
      rcases List.mem_cons.mp a with e3 | e3
      ·exact (e1 e3).elim
      ·exact e3
    have k2 : ∀ x ∈ l.filter fun x => decide (x.id ≠ g.id), ∀ y ∈ l.filter fun x => decide (x.id ≠ g.id), (if m x.id = p then m g.id else m x.id) = (if m y.id = p then m g.id else m y.id) -> x.id = y.id := by
     intro x hx y hy exy
     obtain ⟨hxl, hxg⟩ := sub x hx
     obtain ⟨hyl, hyg⟩ := sub y hy
     by_cases e1 : m x.id = p <;> by_cases e2 : m y.id = p
     ·exact hi x hxl y hyl (e1.trans e2.symm)
     ·simp only [if_pos e1, if_neg e2] at exy
      exact (hyg (hi y hyl g hgl exy.symm)).elim
     ·simp only [if_neg e1, if_pos e2] at exy
      exact (hxg (hi x hxl g hgl exy)).elim
     ·simp only [if_neg e1, if_neg e2] at exy
      exact hi x hxl y hyl exy
    obtain ⟨q, hq⟩ := byWeight_all so (l := l.filter fun x => decide (x.id ≠ g.id)) (fun i => if m i = p then m g.id else m i) hp2 (fun x hx y hy => hid x (sub x hx).1 y (sub y hy).1) k1 k2 f hf2
    exact ⟨q, List.mem_cons_of_mem _ hq⟩
theorem ownSlots_mem {s : State} {c : Int} {p : Nat} : p ∈ ownSlots s c ↔ p < s.slots.length /\ oOf s.slots p = some c := by
 unfold ownSlots
 rw [List.mem_filter, List.mem_range, decide_eq_true_eq]
 rfl
theorem ownSlots_pw (s : State) (c : Int) : (ownSlots s c).Pairwise (· < ·) := List.pairwise_lt_range.filter _
theorem own_flights {s : State} {c : Int} {f : Flight} : (f ∈ (live s).filter fun f => decide (f.carrier = c)) ↔ f ∈ s.flights /\ f.gone = false /\ f.carrier = c := by
 unfold live
 rw [List.mem_filter, List.mem_filter]
 simp [and_assoc]
theorem best_all {s : State} (w : Wf s) (hgv : s.given = true) (c : Int) {f : Flight} (hf : f ∈ s.flights) (hg : f.gone = false) (hc : f.carrier = c) :
  ∃ p, (f, p) ∈ byWeight s (ownSlots s c) ((live s).filter fun f => decide (f.carrier = c)) := by
 refine byWeight_all w.so (fun i => ((flightOf s i).bind (·.place)).getD 0) (ownSlots_pw s c) (fun x hx y hy => w.id_inj (own_flights.mp hx).1 (own_flights.mp hy).1) (fun x hx => ?_) (fun x hx y hy e => ?_) f (own_flights.mpr ⟨hf, hg, hc⟩)
 ·obtain ⟨a, b, d⟩ := own_flights.mp hx
  obtain ⟨p, hp⟩ := (w.fo x a).giv hgv b
  obtain ⟨h1, h2, h3⟩ := (w.fo x a).place p hp
  simp only [w.flightOf a, Option.bind_some, hp, Option.getD_some]
  refine ⟨ownSlots_mem.mpr ⟨h1, by rw [h3, d]⟩, ?_⟩
  simp only [fitsAt, Bool.and_eq_true, decide_eq_true_eq]
  exact ⟨h1, h2⟩
 ·obtain ⟨a, b, d⟩ := own_flights.mp hx
  obtain ⟨a', b', d'⟩ := own_flights.mp hy
  obtain ⟨p, hp⟩ := (w.fo x a).giv hgv b
  obtain ⟨p', hp'⟩ := (w.fo y a').giv hgv b'
  simp only [w.flightOf a, w.flightOf a', Option.bind_some, hp, hp', Option.getD_some] at e
  subst e
  rw [w.inj x a y a' p hp hp']
def bestF (l : List (Flight × Nat)) (f : Flight) : Flight := match l.find? fun x => decide (x.1.id = f.id) with
 | some x => { f with place := some x.2 }
 | none => f
theorem best_eq (s : State) (c : Int) : best s c = { s with flights := s.flights.map (bestF (byWeight s (ownSlots s c) ((live s).filter fun f => decide (f.carrier = c)))) } := rfl
theorem bestF_id (l : List (Flight × Nat)) (f : Flight) : (bestF l f).id = f.id := by
 unfold bestF; split <;> rfl
theorem bestF_cases {s : State} (w : Wf s) (hgv : s.given = true) (c : Int) {f : Flight} (hf : f ∈ s.flights) :
  (f.gone = false /\ f.carrier = c /\ ∃ p, (f, p) ∈ byWeight s (ownSlots s c) ((live s).filter fun f => decide (f.carrier = c)) /\ bestF (byWeight s (ownSlots s c) ((live s).filter fun f => decide (f.carrier = c))) f = { f with place := some p }) \/
  (¬ (f.gone = false /\ f.carrier = c) /\ bestF (byWeight s (ownSlots s c) ((live s).filter fun f => decide (f.carrier = c))) f = f) := by
 by_cases h : f.gone = false /\ f.carrier = c
 ·obtain ⟨p, hp⟩ := best_all w hgv c hf h.1 h.2
  refine .inl ⟨h.1, h.2, p, hp, ?_⟩
  unfold bestF
  rw [find_of_nodup (k := fun (y : Flight × Nat) => y.1.id) (byWeight_nodup ((ownSlots_pw s c).imp fun h => Nat.ne_of_lt h)).2 hp rfl]
 ·refine .inr ⟨h, ?_⟩
  unfold bestF
  rw [List.find?_eq_none.mpr]
  intro y hy e
  obtain ⟨a, b, d⟩ := own_flights.mp (byWeight_mem hy).1
  have := w.id_inj a hf (of_decide_eq_true e)
  rw [this] at b d
  exact h ⟨b, d⟩
theorem best_wf {s : State} (w : Wf s) (hgv : s.given = true) (c : Int) : Wf (best s c) := by
 rw [best_eq]
 have key : ∀ f ∈ s.flights, ∀ p, (f, p) ∈ byWeight s (ownSlots s c) ((live s).filter fun f => decide (f.carrier = c)) -> p < s.slots.length /\ f.ready <= tOf s.slots p /\ oOf s.slots p = some c := fun f hf p hp => by
  obtain ⟨_, b, d⟩ := byWeight_mem hp
  simp only [fitsAt, Bool.and_eq_true, decide_eq_true_eq] at d
  exact ⟨d.1, d.2, (ownSlots_mem.mp b).2⟩
 refine w.upd s.slots _ s.given w.so (fun f _ => bestF_id _ f) (fun f hf => ?_) fun f hf g hg p e e' => ?_
 ·rcases bestF_cases w hgv c hf with ⟨h1, h2, p, hp, h3⟩ | ⟨h1, h3⟩
  ·rw [h3]
   have hfo := w.fo f hf
   refine { hfo with gone := fun e => (by rw [h1] at e; cases e), place := fun q e => ?_, ung := fun e => (by rw [hgv] at e; cases e), giv := fun _ _ => ⟨p, rfl⟩ }
   cases e
   obtain ⟨a, b, d⟩ := key f hf p hp
   exact ⟨a, b, by rw [d]; exact congrArg some h2.symm⟩
  ·rw [h3]; exact w.fo f hf
 ·have other : ∀ (f g : Flight), f ∈ s.flights -> g ∈ s.flights -> ∀ p, (f, p) ∈ byWeight s (ownSlots s c) ((live s).filter fun f => decide (f.carrier = c)) -> ¬ (g.gone = false /\ g.carrier = c) -> g.place ≠ some p := fun f g hf hg p hp h e => by
   obtain ⟨_, _, d⟩ := key f hf p hp
   obtain ⟨_, _, d'⟩ := (w.fo g hg).place p e
   rw [d] at d'
   refine h ⟨?_, (Option.some.inj d').symm⟩
   cases q : g.gone with
   | false => rfl
   | true => rw [(w.fo g hg).gone q] at e; cases e
  rcases bestF_cases w hgv c hf with ⟨h1, h2, p1, hp1, h3⟩ | ⟨h1, h3⟩ <;> rcases bestF_cases w hgv c hg with ⟨k1, k2, p2, hp2, k3⟩ | ⟨k1, k3⟩
  ·rw [h3] at e; rw [k3] at e'
   cases e; cases e'
   have hn := (byWeight_nodup (s := s) (l := (live s).filter fun f => decide (f.carrier = c)) ((ownSlots_pw s c).imp fun h => Nat.ne_of_lt h)).1
   have x1 := find_of_nodup (k := fun (y : Flight × Nat) => y.2) hn hp1 rfl
   have x2 := find_of_nodup (k := fun (y : Flight × Nat) => y.2) hn hp2 rfl
   rw [x1] at x2
   exact congrArg Prod.fst (Option.some.inj x2)
  ·rw [h3] at e; rw [k3] at e'
   cases e
   exact (other f g hf hg _ hp1 k1 e').elim
  ·rw [h3] at e; rw [k3] at e'
   cases e'
   exact (other g f hg hf _ hp2 h1 e).elim
  ·rw [h3] at e; rw [k3] at e'
   exact w.inj f hf g hg p e e'
theorem exchanged_eq {s : State} {f g : Flight} {p q : Nat} (hp : f.place = some p) (hq : g.place = some q) :
  exchanged s f g = { slots := ownAt (ownAt s.slots p (some g.carrier)) q (some f.carrier), flights := (s.flights.map (putF { f with place := some q })).map (putF { g with place := some p }), given := s.given } := by
 unfold exchanged
 rw [hp, hq]
 rfl
theorem exchanged_wf {s : State} (w : Wf s) {f g : Flight} (hf : f ∈ s.flights) (hg : g ∈ s.flights) (hne : f.id ≠ g.id) {p q : Nat} (hp : f.place = some p) (hq : g.place = some q) (h1 : f.ready <= tOf s.slots q) (h2 : g.ready <= tOf s.slots p) : Wf (exchanged s f g) := by
 rw [exchanged_eq hp hq, List.map_map]
 have hfo := w.fo f hf
 have hgo := w.fo g hg
 obtain ⟨pl, _, po⟩ := hfo.place p hp
 obtain ⟨ql, _, qo⟩ := hgo.place q hq
 have npq : p ≠ q := fun e => hne (by rw [w.inj f hf g hg p hp (e ▸ hq)])
 have fng : f.gone = false := by
  cases e : f.gone with
  | false => rfl
  | true => rw [hfo.gone e] at hp; cases hp
 have gng : g.gone = false := by
  cases e : g.gone with
  | false => rfl
  | true => rw [hgo.gone e] at hq; cases hq
 have φ : ∀ x ∈ s.flights, (x = f /\ (putF { g with place := some p } ∘ putF { f with place := some q }) x = { f with place := some q }) \/ (x = g /\ (putF { g with place := some p } ∘ putF { f with place := some q }) x = { g with place := some p }) \/
   (x.id ≠ f.id /\ x.id ≠ g.id /\ (putF { g with place := some p } ∘ putF { f with place := some q }) x = x) := fun x hx => by
  show _ \/ _ \/ _
  by_cases e1 : x.id = f.id
  ·refine .inl ⟨w.id_inj hx hf e1, ?_⟩
   show putF _ (putF _ x) = _
   have a : putF { f with place := some q } x = { f with place := some q } := if_pos e1
   rw [a]
   exact if_neg hne
  ·by_cases e2 : x.id = g.id
   ·refine .inr (.inl ⟨w.id_inj hx hg e2, ?_⟩)
    show putF _ (putF _ x) = _
    have a : putF { f with place := some q } x = x := if_neg e1
    rw [a]
    exact if_pos e2
   ·refine .inr (.inr ⟨e1, e2, ?_⟩)
    show putF _ (putF _ x) = _
    have a : putF { f with place := some q } x = x := if_neg e1
    rw [a]
    exact if_neg e2
 have oth : ∀ x ∈ s.flights, x.id ≠ f.id -> x.id ≠ g.id -> ∀ r, x.place = some r -> r ≠ p /\ r ≠ q := fun x hx e1 e2 r e =>
  ⟨fun z => e1 (by rw [w.inj x hx f hf p (z ▸ e) hp]), fun z => e2 (by rw [w.inj x hx g hg q (z ▸ e) hq])⟩
 have so1 : SOk (ownAt (ownAt s.slots p (some g.carrier)) q (some f.carrier)) := (w.so.ownAt p fun c e => by cases e; exact ⟨hgo.c0, hgo.c1⟩).ownAt q fun c e => by cases e; exact ⟨hfo.c0, hfo.c1⟩
 refine w.upd _ _ s.given so1 (fun x hx => ?_) (fun x hx => ?_) fun x hx y hy r e e' => ?_
 ·rcases φ x hx with ⟨a, b⟩ | ⟨a, b⟩ | ⟨a, a', b⟩ <;> rw [b] <;> simp [*]
 ·rcases φ x hx with ⟨a, b⟩ | ⟨a, b⟩ | ⟨a, a', b⟩ <;> rw [b]
  ·refine { hfo with gone := fun e => (by rw [fng] at e; cases e), place := fun r e => ?_, ung := fun e => (by rw [hfo.ung e] at hp; cases hp), giv := fun _ _ => ⟨q, rfl⟩ }
   cases e
   exact ⟨by rw [ownAt_len, ownAt_len]; exact ql, by rw [ownAt_t, ownAt_t]; exact h1, by rw [ownAt_o, ownAt_len, if_pos ⟨rfl, ql⟩]⟩
  ·refine { hgo with gone := fun e => (by rw [gng] at e; cases e), place := fun r e => ?_, ung := fun e => (by rw [hgo.ung e] at hq; cases hq), giv := fun _ _ => ⟨p, rfl⟩ }
   cases e
   exact ⟨by rw [ownAt_len, ownAt_len]; exact pl, by rw [ownAt_t, ownAt_t]; exact h2, by rw [ownAt_o, if_neg (fun (z : p = q /\ _) => npq z.1), ownAt_o, if_pos ⟨rfl, pl⟩]⟩
  ·refine (w.fo x hx).slots (by rw [ownAt_len, ownAt_len]; exact Nat.le_refl _) (fun r _ => by rw [ownAt_t, ownAt_t]) fun r e => ?_
   obtain ⟨z1, z2⟩ := oth x hx a a' r e
   rw [ownAt_o, if_neg (fun (z : r = q /\ _) => z2 z.1), ownAt_o, if_neg (fun (z : r = p /\ _) => z1 z.1)]
 ·rcases φ x hx with ⟨a, b⟩ | ⟨a, b⟩ | ⟨a, a', b⟩ <;> rcases φ y hy with ⟨c, d⟩ | ⟨c, d⟩ | ⟨c, c', d⟩ <;> rw [b] at e <;> rw [d] at e'
  ·rw [a, c]
  ·cases e; cases e'; exact (npq rfl).elim
  ·cases e; exact ((oth y hy c c' _ e').2 rfl).elim
  ·cases e; cases e'; exact (npq rfl).elim
  ·rw [a, c]
  ·cases e; exact ((oth y hy c c' _ e').1 rfl).elim
  ·cases e'; exact ((oth x hx a a' _ e).2 rfl).elim
  ·cases e'; exact ((oth x hx a a' _ e).1 rfl).elim
  ·exact w.inj x hx y hy r e e'
theorem exchanged_mem {s : State} {f g x : Flight} (hx : x ∈ s.flights) (e1 : x.id ≠ f.id) (e2 : x.id ≠ g.id) : x ∈ (exchanged s f g).flights := by
 show x ∈ (s.flights.map (putF { f with place := _ })).map (putF { g with place := _ })
 refine List.mem_map.mpr ⟨x, List.mem_map.mpr ⟨x, hx, if_neg e1⟩, if_neg e2⟩
theorem exchanged_t (s : State) (f g : Flight) (p : Nat) : tOf (exchanged s f g).slots p = tOf s.slots p := by
 show tOf (ownAt (ownAt s.slots _ _) _ _) p = _
 rw [ownAt_t, ownAt_t]
theorem seated_some {s : State} {i : Int} {f : Flight} (h : seated s i = some f) : f ∈ s.flights /\ f.id = i /\ f.gone = false /\ ∃ p, f.place = some p := by
 unfold seated at h
 split at h
 ·rename_i g hg
  split at h
  ·rename_i hc
   cases h
   exact ⟨(flightOf_some hg).1, (flightOf_some hg).2, hc.1, Option.isSome_iff_exists.mp hc.2⟩
  ·cases h
 ·cases h
theorem release_wf {s : State} (w : Wf s) {p : Nat} (ho : isOpen s p = true) : Wf (setOwner s p none) := by
 have hfree := (isOpen_iff w p).mp ho
 refine ⟨w.so.ownAt p fun c e => (by cases e), w.ids, w.nfl, fun f hf => ?_, w.inj⟩
 refine (w.fo f hf).slots (Nat.le_of_eq (ownAt_len _ _ _).symm) (fun q _ => ownAt_t _ _ _ _) fun q e => ?_
 show oOf (ownAt _ _ _) q = _
 rw [ownAt_o, if_neg (fun (z : q = p /\ _) => hfree f hf (z.1 ▸ e))]
end SH
end
section
namespace SH
open Vbahas
theorem within_iff {lo hi x : Int} : within lo hi x = true ↔ lo <= x /\ x <= hi := by
 unfold within; rw [Bool.and_eq_true, decide_eq_true_eq, decide_eq_true_eq]
theorem wf_flight {s : State} (w : Wf s) {i c t wt : Int} (h : inRange (.flight i c t wt) = true) : Wf (stepFlight s i c t wt).1 := by
 simp only [inRange, idIn, carrierIn, timeIn, LATEST, Bool.and_eq_true, within_iff] at h
 obtain ⟨⟨⟨⟨a1, a2⟩, a3, a4⟩, a5, a6⟩, a7, a8⟩ := h
 unfold stepFlight
 simp only
 split
 ·exact w
 ·rename_i hn
  have hn' : flightOf s i = none := by
   cases q : flightOf s i with
   | none => rfl
   | some f => rw [q] at hn; exact (hn rfl).elim
  have hid := flightOf_none hn'
  split
  ·exact w
  ·rename_i hl
   have hl' : s.flights.length < 60 := by
    have : ¬ (60 : Nat) <= s.flights.length := hl
    omega
   split
   ·rename_i hg
    exact flight0_wf w hid hl' hg rfl ⟨a1, a2, a3, a4, a5, Int.le_refl _, a6, a7, a8⟩
   ·rename_i hg
    have hg' : s.given = true := by
     cases q : s.given with
     | true => rfl
     | false => exact (hg q).elim
    split
    ·exact w
    ·rename_i p hp
     exact flight_wf w (f := { id := i, carrier := c, sched := t, ready := t, weight := wt, exempt := false, gone := false, place := none }) hid hl' hp hg' ⟨a1, a2, a3, a4, a5, Int.le_refl _, a6, a7, a8⟩ rfl
theorem wf_ready {s : State} (w : Wf s) {i t : Int} (h : inRange (.ready i t) = true) : Wf (stepReady s i t).1 := by
 simp only [inRange, idIn, timeIn, LATEST, Bool.and_eq_true, within_iff] at h
 obtain ⟨_, h1, h2⟩ := h
 unfold stepReady
 split
 ·exact w
 ·rename_i f hf
  obtain ⟨hm, hi⟩ := flightOf_some hf
  have hfo := w.fo f hm
  split
  ·exact w
  ·rename_i hg
   split
   ·exact w
   ·rename_i ht
    simp only
    split
    ·rename_i hp
     exact setFlight_wf w hm rfl { hfo with s1 := (by show f.sched <= t; omega), r1 := h2, place := fun p e => (by have e : f.place = some p := e; rw [hp] at e; cases e) } (.inl rfl)
    ·rename_i p hp
     split
     ·rename_i hle
      exact setFlight_wf w hm rfl { hfo with s1 := (by show f.sched <= t; omega), r1 := h2, place := fun q e => (by
       have e : f.place = some q := e
       rw [hp] at e
       cases e
       exact ⟨(hfo.place p hp).1, hle, (hfo.place p hp).2.2⟩) } (.inl rfl)
     ·split
      ·exact w
      ·rename_i q hq
       obtain ⟨b1, b2, b3, b4⟩ := spare_some w hq
       refine moved_wf w (f' := { f with ready := t, place := some q }) hm rfl rfl rfl b3 b1 { hfo with s1 := (by show f.sched <= t; omega), r1 := h2, gone := fun e => (hg e).elim, place := fun r e => ?_, ung := fun e => (by rw [hfo.ung e] at hp; cases hp), giv := fun _ _ => ⟨q, rfl⟩ }
       cases e
       exact ⟨by rw [ownAt_len]; exact b1, by rw [ownAt_t]; exact b2, by rw [ownAt_o, if_pos ⟨rfl, b1⟩]⟩
theorem fits_iff {s : State} {f : Flight} {p : Nat} : fitsAt s f p = true ↔ p < s.slots.length /\ f.ready <= tOf s.slots p := by
 unfold fitsAt; rw [Bool.and_eq_true, decide_eq_true_eq, decide_eq_true_eq]; rfl
theorem wf_swap {s : State} (w : Wf s) {a b : Int} : Wf (stepSwap s a b).1 := by
 unfold stepSwap
 split
 ·split
  ·rename_i f g hf hg
   obtain ⟨f1, f2, f3, p, hp⟩ := seated_some hf
   obtain ⟨g1, g2, g3, q, hq⟩ := seated_some hg
   split
   ·exact w
   ·rename_i hne
    split
    ·exact w
    ·rename_i hfit
     simp only [hp, hq, Option.getD_some, Bool.not_eq_false, Bool.and_eq_true, fits_iff] at hfit
     exact exchanged_wf w f1 g1 (fun e => hne (.inr (by rw [<- f2, <- g2]; exact e))) hp hq hfit.1.2 hfit.2.2
  ·exact w
 ·exact w
theorem wf_trade {s : State} (w : Wf s) {a b c d : Int} : Wf (stepTrade s a b c d).1 := by
 unfold stepTrade
 split
 ·exact w
 ·split
  ·rename_i f g h k hf hg hh hk
   obtain ⟨f1, f2, f3, p, hp⟩ := seated_some hf
   obtain ⟨g1, g2, g3, q, hq⟩ := seated_some hg
   obtain ⟨h1, h2, h3, r, hr⟩ := seated_some hh
   obtain ⟨k1, k2, k3, u, hu⟩ := seated_some hk
   split
   ·exact w
   ·rename_i hne
    simp only [not_or, Decidable.not_not, ne_eq] at hne
    obtain ⟨n1, n2, n3, n4, n5⟩ := hne
    split
    ·exact w
    ·rename_i hfit
     simp only [hp, hq, hr, hu, Option.getD_some, Bool.not_eq_false, Bool.and_eq_true, fits_iff] at hfit
     obtain ⟨⟨_, x1⟩, ⟨_, x2⟩, ⟨_, x3⟩, _, x4⟩ := hfit
     have fh : f.id ≠ h.id := fun e => n3 (by rw [w.id_inj f1 h1 e])
     have gf : g.id ≠ f.id := by rw [f2, g2]; exact fun e => n4 e.symm
     have gh : g.id ≠ h.id := fun e => n3 (by rw [<- w.id_inj g1 h1 e, n1])
     have kf : k.id ≠ f.id := fun e => n3 (by rw [n2, <- w.id_inj k1 f1 e])
     have kh : k.id ≠ h.id := by rw [k2, h2]; exact fun e => n5 e.symm
     have gk : g.id ≠ k.id := fun e => n3 (by rw [n1, n2, w.id_inj g1 k1 e])
     have w1 := exchanged_wf w f1 h1 fh hp hr x1 x2
     have w2 := exchanged_wf w1 (exchanged_mem g1 gf gh) (exchanged_mem k1 kf kh) gk hq hu (by rw [exchanged_t]; exact x3) (by rw [exchanged_t]; exact x4)
     simp only
     split
     ·exact w
     ·exact w2
  ·exact w
theorem step_wf {s : State} (w : Wf s) : ∀ {c : Call}, inRange c = true -> Wf (step s c).1
 | .slots a g n, h => by
  simp only [inRange, timeIn, LATEST, Bool.and_eq_true, within_iff] at h
  obtain ⟨⟨⟨a1, a2⟩, a3, a4⟩, a5, a6⟩ := h
  simp only [step]
  split
  ·exact w
  ·rename_i h1
   split
   ·exact w
   ·rename_i h2
    split
    ·exact w
    ·rename_i h3
     have h2' : a + g * (n - 1) <= 52595999 := by
      have : ¬ (52595999 : Int) < a + g * (n - 1) := h2
      omega
     have h3' : s.slots.length + n.toNat <= 120 := by
      have : ¬ (120 : Nat) < s.slots.length + n.toNat := h3
      omega
     refine slots_wf w a1 a3 (fun x hx => ?_) ?_ h3'
     ·simp only [List.any_eq_true, decide_eq_true_eq, not_exists, not_and] at h1
      have := h1 x hx
      omega
     ·rw [Int.toNat_of_nonneg (by omega)]; exact h2'
 | .flight i c t wt, h => wf_flight w h
 | .exempt i y, h => by
  simp only [step]
  split
  ·exact w
  ·rename_i f hf
   obtain ⟨hm, hi⟩ := flightOf_some hf
   have hfo := w.fo f hm
   exact setFlight_wf w hm rfl { hfo with } (.inl rfl)
 | .ready i t, h => wf_ready w h
 | .cancel i, h => by
  simp only [step]
  split
  ·exact w
  ·rename_i f hf
   obtain ⟨hm, hi⟩ := flightOf_some hf
   have hfo := w.fo f hm
   split
   ·exact w
   ·exact setFlight_wf w hm rfl { hfo with gone := fun _ => rfl, place := fun _ e => (by cases e), ung := fun _ => rfl, giv := fun _ e => (by cases e) } (.inr rfl)
 | .ration, h => by
  simp only [step]
  split
  ·exact w
  ·rename_i t ht
   exact ration_wf w ht
 | .compress, h => by
  simp only [step]
  split
  ·exact w
  ·exact passOn_wf _ _ w
 | .swap a b, h => wf_swap w
 | .best c, h => by
  simp only [step]
  split
  ·exact w
  ·rename_i hg
   exact best_wf w (by cases q : s.given with | true => rfl | false => exact (hg q).elim) c
 | .trade a b c d, h => wf_trade w
 | .release p, h => by
  simp only [step]
  split
  ·exact w
  ·split
   ·rename_i ho
    exact release_wf w ho
   ·exact w
 | .slot i, h => by
  simp only [step]
  split <;> exact w
 | .table, h => w
 | .carrier c, h => w
 | .total, h => w
 | .queue l, h => by
  simp only [step]
  split
  ·exact w
  ·split <;> exact w
 | .rival l, h => by
  simp only [step]
  split
  ·exact w
  ·split <;> exact w
 | .open_, h => w
end SH
end
section
namespace SH
open Vbahas
theorem foldl_add (l : List Int) : ∀ a : Int, l.foldl (fun a b => a + b) a = a + l.sum := by
 induction l with
 | nil => intro a; simp
 | cons x r ih => intro a; rw [List.foldl_cons, ih, List.sum_cons]; omega
theorem sum_eq (l : List Int) : Vbahas.sum l = l.sum := by
 unfold Vbahas.sum; rw [foldl_add]; omega
theorem perm_sum {l m : List Int} (h : l.Perm m) : l.sum = m.sum := by
 induction h with
 | nil => rfl
 | cons x _ ih => rw [List.sum_cons, List.sum_cons, ih]
 | swap x y l => simp only [List.sum_cons]; omega
 | trans _ _ a b => exact a.trans b
theorem foldl_max (l : List Int) : ∀ a : Int, (a <= l.foldl (fun a b => if a <= b then b else a) a) /\ (∀ x ∈ l, x <= l.foldl (fun a b => if a <= b then b else a) a) /\ (l.foldl (fun a b => if a <= b then b else a) a = a \/ l.foldl (fun a b => if a <= b then b else a) a ∈ l) := by
 induction l with
 | nil => intro a; exact ⟨Int.le_refl _, fun _ h => (List.not_mem_nil h).elim, .inl rfl⟩
 | cons y r ih =>
  intro a
  rw [List.foldl_cons]
  obtain ⟨h1, h2, h3⟩ := ih (if a <= y then y else a)
  have ha : a <= (if a <= y then y else a) /\ y <= (if a <= y then y else a) := by split <;> omega
  refine ⟨Int.le_trans ha.1 h1, fun x hx => ?_, ?_⟩
  ·rcases List.mem_cons.mp hx with rfl | hx
   ·exact Int.le_trans ha.2 h1
   ·exact h2 x hx
  ·rcases h3 with h3 | h3
   ·rw [h3]
    split
    ·exact .inr List.mem_cons_self
    ·exact .inl rfl
   ·exact .inr (List.mem_cons_of_mem _ h3)
theorem greatest_of {l : List Int} {m : Int} (h0 : ∀ x ∈ l, 0 <= x) (hm : m ∈ l) (hle : ∀ x ∈ l, x <= m) : greatest l = m := by
 obtain ⟨h1, h2, h3⟩ := foldl_max l 0
 have : l.foldl (fun a b => if a <= b then b else a) 0 = greatest l := rfl
 rw [this] at h1 h2 h3
 have a := h2 m hm
 have b := h0 m hm
 rcases h3 with h3 | h3
 ·omega
 ·have := hle _ h3; omega
theorem perm_greatest {l m : List Int} (h : l.Perm m) : greatest l = greatest m := by
 obtain ⟨a1, a2, a3⟩ := foldl_max l 0
 obtain ⟨b1, b2, b3⟩ := foldl_max m 0
 have e1 : l.foldl (fun a b => if a <= b then b else a) 0 = greatest l := rfl
 have e2 : m.foldl (fun a b => if a <= b then b else a) 0 = greatest m := rfl
 rw [e1] at a1 a2 a3
 rw [e2] at b1 b2 b3
 have x1 : greatest l <= greatest m := by
  rcases a3 with a3 | a3
  ·omega
  ·exact b2 _ (h.mem_iff.mp a3)
 have x2 : greatest m <= greatest l := by
  rcases b3 with b3 | b3
  ·omega
  ·exact a2 _ (h.mem_iff.mpr b3)
 omega
structure Rel (sl : List Slot) (fl : List Flight) (g : Bool) (s : State) : Prop where
 sl : s.slots = sl
 gv : s.given = g
 pm : fl.Perm s.flights
 wf : Wf s
section
variable {sl : List Slot} {fl : List Flight} {g : Bool} {s : State}
theorem Rel.mem (R : Rel sl fl g s) {f : Flight} : f ∈ fl ↔ f ∈ s.flights := R.pm.mem_iff
theorem Rel.len (R : Rel sl fl g s) : fl.length = s.flights.length := R.pm.length_eq
theorem Rel.ids (R : Rel sl fl g s) : (fl.map (·.id)).Nodup := (R.pm.map _).nodup_iff.mpr (ids_nodup R.wf.ids)
theorem Rel.id_inj (R : Rel sl fl g s) {f k : Flight} (hf : f ∈ fl) (hk : k ∈ fl) (e : f.id = k.id) : f = k := R.wf.id_inj (R.mem.mp hf) (R.mem.mp hk) e
theorem Rel.fok (R : Rel sl fl g s) {f : Flight} (hf : f ∈ fl) : FOk sl g f := by
 have := R.wf.fo f (R.mem.mp hf)
 rw [R.sl, R.gv] at this
 exact this
theorem Rel.so (R : Rel sl fl g s) : SOk sl := by have := R.wf.so; rw [R.sl] at this; exact this
theorem Rel.inj (R : Rel sl fl g s) {f k : Flight} (hf : f ∈ fl) (hk : k ∈ fl) {p : Nat} (e : f.place = some p) (e' : k.place = some p) : f = k := R.wf.inj f (R.mem.mp hf) k (R.mem.mp hk) p e e'
theorem Rel.find (R : Rel sl fl g s) {f : Flight} (hf : f ∈ fl) : flightOf s f.id = some f := R.wf.flightOf (R.mem.mp hf)
theorem Rel.nofind (R : Rel sl fl g s) {i : Int} (h : ∀ f ∈ fl, f.id ≠ i) : flightOf s i = none := by
 cases q : flightOf s i with
 | none => rfl
 | some f => exact (h f (R.mem.mpr (flightOf_some q).1) (flightOf_some q).2).elim
theorem Rel.live (R : Rel sl fl g s) : (fl.filter fun f => !f.gone).Perm (Vbahas.live s) := R.pm.filter _
theorem Rel.liveC (R : Rel sl fl g s) (c : Int) : ((fl.filter fun f => !f.gone).filter fun f => decide (f.carrier = c)).Perm ((Vbahas.live s).filter fun f => decide (f.carrier = c)) := R.live.filter _
theorem Rel.open_iff (R : Rel sl fl g s) (p : Nat) : isOpen s p = true ↔ ∀ f ∈ fl, f.place ≠ some p := by
 rw [isOpen_iff R.wf]
 exact ⟨fun h f hf => h f (R.mem.mp hf), fun h f hf => h f (R.mem.mpr hf)⟩
def late (sl : List Slot) (f : Flight) : Int := match f.place with
 | some p => tOf sl p - f.sched
 | none => 0
theorem late_eq (s : State) (f : Flight) : delayOf s f = late s.slots f := rfl
theorem Rel.late0 (R : Rel sl fl g s) {f : Flight} (hf : f ∈ fl) : 0 <= late sl f := by
 unfold late
 split
 ·rename_i p hp
  have := (R.fok hf).place p hp
  have := (R.fok hf).s1
  omega
 ·omega
def costL (sl : List Slot) (fl : List Flight) (c : Int) : Int := (((fl.filter fun f => !f.gone).filter fun f => decide (f.carrier = c)).map fun f => f.weight * late sl f).sum
theorem Rel.cost (R : Rel sl fl g s) (c : Int) : cost s c = costL sl fl c := by
 unfold Vbahas.cost costL
 rw [sum_eq]
 refine (perm_sum ?_).symm
 have e : (fun f : Flight => f.weight * delayOf s f) = fun f => f.weight * late sl f := by funext f; rw [late_eq, R.sl]
 rw [e]
 exact (R.liveC c).map _
theorem Rel.sumLate (R : Rel sl fl g s) : Vbahas.sum ((Vbahas.live s).map (delayOf s)) = ((fl.filter fun f => !f.gone).map (late sl)).sum := by
 rw [sum_eq]
 refine (perm_sum ?_).symm
 have e : delayOf s = late sl := by funext f; rw [late_eq, R.sl]
 rw [e]
 exact R.live.map _
theorem Rel.greatLate (R : Rel sl fl g s) : greatest ((Vbahas.live s).map (delayOf s)) = greatest ((fl.filter fun f => !f.gone).map (late sl)) := by
 refine (perm_greatest ?_).symm
 have e : delayOf s = late sl := by funext f; rw [late_eq, R.sl]
 rw [e]
 exact R.live.map _
theorem Rel.sumLateC (R : Rel sl fl g s) (c : Int) : Vbahas.sum (((Vbahas.live s).filter fun f => decide (f.carrier = c)).map (delayOf s)) = (((fl.filter fun f => !f.gone).filter fun f => decide (f.carrier = c)).map (late sl)).sum := by
 rw [sum_eq]
 refine (perm_sum ?_).symm
 have e : delayOf s = late sl := by funext f; rw [late_eq, R.sl]
 rw [e]
 exact (R.liveC c).map _
theorem Rel.greatLateC (R : Rel sl fl g s) (c : Int) : greatest (((Vbahas.live s).filter fun f => decide (f.carrier = c)).map (delayOf s)) = greatest (((fl.filter fun f => !f.gone).filter fun f => decide (f.carrier = c)).map (late sl)) := by
 refine (perm_greatest ?_).symm
 have e : delayOf s = late sl := by funext f; rw [late_eq, R.sl]
 rw [e]
 exact (R.liveC c).map _
theorem rowLess_irrefl : ∀ a : List Int, rowLess a a = false
 | [] => rfl
 | x :: r => by unfold rowLess; simp [rowLess_irrefl r]
theorem rowLess_trans : ∀ a b c : List Int, rowLess a b = true -> rowLess b c = true -> rowLess a c = true
 | [], [], c, h, _ => by simp [rowLess] at h
 | [], _ :: _, [], _, h => by simp [rowLess] at h
 | [], _ :: _, _ :: _, _, _ => rfl
 | _ :: _, [], _, h, _ => by simp [rowLess] at h
 | _ :: _, _ :: _, [], _, h => by simp [rowLess] at h
 | x :: r, y :: t, z :: u, h1, h2 => by
  simp only [rowLess, Bool.or_eq_true, Bool.and_eq_true, decide_eq_true_eq] at h1 h2 ⊢
  rcases h1 with h1 | ⟨h1, h1'⟩ <;> rcases h2 with h2 | ⟨h2, h2'⟩
  ·exact .inl (by omega)
  ·exact .inl (by omega)
  ·exact .inl (by omega)
  ·exact .inr ⟨by omega, rowLess_trans r t u h1' h2'⟩
theorem rowLess_total : ∀ a b : List Int, rowLess a b = false -> rowLess b a = false -> a = b
 | [], [], _, _ => rfl
 | [], _ :: _, h, _ => by simp [rowLess] at h
 | _ :: _, [], _, h => by simp [rowLess] at h
 | x :: r, y :: t, h1, h2 => by
  simp only [rowLess, Bool.or_eq_false_iff, decide_eq_false_iff_not, Bool.and_eq_false_iff] at h1 h2
  have e : x = y := by omega
  subst e
  rw [rowLess_total r t (by simpa using h1.2) (by simpa using h2.2)]
theorem putBy_pw {key : Flight -> List Int} {f : Flight} : ∀ {l : List Flight}, l.Pairwise (fun a b => rowLess (key b) (key a) = false) -> (putBy key f l).Pairwise (fun a b => rowLess (key b) (key a) = false)
 | [], _ => List.pairwise_singleton _ _
 | g :: r, h => by
  obtain ⟨h1, h2⟩ := List.pairwise_cons.mp h
  unfold putBy
  split
  ·rename_i hlt
   refine List.pairwise_cons.mpr ⟨fun x hx => ?_, h⟩
   rcases List.mem_cons.mp hx with rfl | hx
   ·cases q : rowLess (key x) (key f) with
    | false => rfl
    | true =>
     have := rowLess_trans _ _ _ hlt q
     rw [rowLess_irrefl] at this; cases this
   ·cases q : rowLess (key x) (key f) with
    | false => rfl
    | true =>
     have := rowLess_trans _ _ _ q hlt
     rw [h1 x hx] at this; cases this
  ·rename_i hnl
   refine List.pairwise_cons.mpr ⟨fun x hx => ?_, putBy_pw h2⟩
   rcases List.mem_cons.mp ((putBy_perm key f r).mem_iff.mp hx) with rfl | hx
   ·simpa using hnl
   ·exact h1 x hx
theorem sortBy_pw (key : Flight -> List Int) : ∀ l : List Flight, (sortBy key l).Pairwise (fun a b => rowLess (key b) (key a) = false)
 | [] => List.Pairwise.nil
 | f :: l => putBy_pw (sortBy_pw key l)
theorem sorted_unique {key : Flight -> List Int} : ∀ {l m : List Flight}, l.Perm m -> (∀ a ∈ l, ∀ b ∈ l, key a = key b -> a = b) -> l.Pairwise (fun a b => rowLess (key b) (key a) = false) -> m.Pairwise (fun a b => rowLess (key b) (key a) = false) -> l = m
 | [], m, p, _, _, _ => (List.nil_perm.mp p).symm
 | a :: l, m, p, hk, h1, h2 => by
  match m, p, h2 with
  | [], p, _ => exact absurd p.length_eq (by simp)
  | b :: m, p, h2 =>
   obtain ⟨a1, a2⟩ := List.pairwise_cons.mp h1
   obtain ⟨b1, b2⟩ := List.pairwise_cons.mp h2
   have hb : b ∈ a :: l := p.mem_iff.mpr List.mem_cons_self
   have ha : a ∈ b :: m := p.mem_iff.mp List.mem_cons_self
   have e : a = b := by
    rcases List.mem_cons.mp hb with e | hb'
    ·exact e.symm
    ·rcases List.mem_cons.mp ha with e | ha'
     ·exact e
     ·exact hk a List.mem_cons_self b hb (rowLess_total _ _ (b1 a ha') (a1 b hb'))
   subst e
   have p' : l.Perm m := (List.perm_cons a).mp p
   rw [sorted_unique p' (fun x hx y hy => hk x (List.mem_cons_of_mem _ hx) y (List.mem_cons_of_mem _ hy)) a2 b2]
theorem Rel.ration_order (R : Rel sl fl g s) {l : List Flight} (p : l.Perm fl) (h : l.Pairwise (fun a b => rowLess (rank b) (rank a) = false)) : l = sortBy rank s.flights := by
 refine sorted_unique (p.trans (R.pm.trans (sortBy_perm _ _).symm)) (fun a ha b hb e => ?_) h (sortBy_pw _ _)
 have : a.id = b.id := by
  unfold rank at e
  injection e with _ e
  injection e with _ e
  injection e with e _
 exact R.id_inj (p.mem_iff.mp ha) (p.mem_iff.mp hb) this
theorem head_sorted {key : Flight -> List Int} {l m : List Flight} (p : m.Perm l) (hk : ∀ a ∈ l, ∀ b ∈ l, key a = key b -> a = b) (h : m.Pairwise (fun a b => rowLess (key b) (key a) = false)) : (sortBy key l).head? = m.head? := by
 rw [sorted_unique (key := key) (l := m) (m := sortBy key l) (p.trans (sortBy_perm _ _).symm) (fun a ha b hb => hk a (p.mem_iff.mp ha) b (p.mem_iff.mp hb)) h (sortBy_pw _ _)]
theorem head_least {key : Flight -> List Int} {l : List Flight} {f : Flight} (hf : f ∈ l) (hk : ∀ a ∈ l, ∀ b ∈ l, key a = key b -> a = b) (h : ∀ x ∈ l, rowLess (key x) (key f) = false) : (sortBy key l).head? = some f := by
 have P := sortBy_perm key l
 have W := sortBy_pw key l
 cases q : sortBy key l with
 | nil => rw [q] at P; exact absurd hf (by rw [List.nil_perm.mp P]; simp)
 | cons a r =>
  rw [q] at P W
  have ha : a ∈ l := P.mem_iff.mp List.mem_cons_self
  obtain ⟨w1, _⟩ := List.pairwise_cons.mp W
  have h1 := h a ha
  rcases List.mem_cons.mp (P.mem_iff.mpr hf) with e | hf'
  ·rw [e]; rfl
  ·have h2 := w1 f hf'
   rw [hk a ha f hf (rowLess_total _ _ h1 h2)]; rfl
end
end SH
end
section
namespace SH
open Vbahas
def oI (o : Option Int) : Int := o.getD (-1)
def pI (p : Option Nat) : Int := match p with
 | some p => (p : Int) + 1
 | none => 0
theorem pI_n : pI none = 0 := rfl
theorem pI_s (p : Nat) : pI (some p) = (p : Int) + 1 := rfl
theorem oI_none {o : Option Int} (h : ∀ c, o = some c -> 0 <= c) : oI o = -1 ↔ o = none := by
 unfold oI
 cases o with
 | none => simp
 | some c =>
  have := h c rfl
  simp
  omega
theorem oI_some {o : Option Int} {c : Int} (hc : 0 <= c) : oI o = c ↔ o = some c := by
 unfold oI
 cases o with
 | none => simp; omega
 | some d => simp
theorem pI_zero {p : Option Nat} : pI p = 0 ↔ p = none := by
 unfold pI
 cases p with
 | none => simp
 | some p => simp; omega
theorem pI_some {p : Option Nat} {q : Nat} : pI p = (q : Int) + 1 ↔ p = some q := by
 unfold pI
 cases p with
 | none => simp; omega
 | some p => simp only [Option.some.injEq]; omega
section
variable {sl : List Slot} {fl : List Flight} {g : Bool} {s : State}
theorem Rel.own0 (R : Rel sl fl g s) {p : Nat} {c : Int} (h : oOf sl p = some c) : 0 <= c := (R.so.ownO h).1
def heldP (fl : List Flight) (p : Nat) : Bool := fl.any fun f => decide (f.place = some p)
theorem Rel.held (R : Rel sl fl g s) (p : Nat) : heldP fl p = !isOpen s p := by
 cases h : isOpen s p with
 | true =>
  have := (R.open_iff p).mp h
  show heldP fl p = false
  unfold heldP
  rw [List.any_eq_false]
  intro f hf
  simp [this f hf]
 | false =>
  show heldP fl p = true
  unfold heldP
  rw [List.any_eq_true]
  apply Classical.byContradiction
  intro hn
  have : isOpen s p = true := (R.open_iff p).mpr fun f hf e => hn ⟨f, hf, by simp [e]⟩
  rw [h] at this; cases this
def openL (sl : List Slot) (fl : List Flight) (os : List Int) : List Nat := ((List.range sl.length).filter fun p => !heldP fl p).filter fun p => os.contains (oI (oOf sl p))
theorem range_find {n : Nat} {p q : Nat -> Bool} (h : ∀ i, i < n -> p i = q i) : (List.range n).find? p = (List.range n).find? q := by
 have : ∀ l : List Nat, (∀ i ∈ l, p i = q i) -> l.find? p = l.find? q := by
  intro l
  induction l with
  | nil => intro _; rfl
  | cons a r ih =>
   intro h
   rw [List.find?_cons, List.find?_cons, h a List.mem_cons_self, ih fun i hi => h i (List.mem_cons_of_mem _ hi)]
 exact this _ fun i hi => h i (List.mem_range.mp hi)
theorem Rel.spare0 (R : Rel sl fl g s) (f : Flight) : (openL sl fl [-1]).find? (fun p => decide (f.ready <= tOf sl p)) = spare s f false := by
 unfold openL spare
 rw [List.find?_filter, List.find?_filter, R.sl]
 apply range_find
 intro i hi
 rw [R.held]
 have e : ([(-1 : Int)].contains (oI (oOf sl i))) = decide (ownerOf s i = none) := by
  have : ownerOf s i = oOf sl i := by rw [ownerOf_eq, R.sl]
  rw [this]
  by_cases h : oOf sl i = none
  ·simp [h, oI]
  ·have : ¬ oI (oOf sl i) = -1 := fun z => h ((oI_none fun c e => R.own0 e).mp z)
   simp [h, this]
 rw [e]
 simp only [fitsAt, timeOf_eq, R.sl, hi, decide_true, Bool.true_and, Bool.not_not, Bool.false_and, Bool.or_false]
 cases decide (f.ready <= tOf sl i) <;> cases isOpen s i <;> cases decide (ownerOf s i = none) <;> rfl
theorem Rel.spare1 (R : Rel sl fl g s) (f : Flight) (hc : 0 <= f.carrier) : (openL sl fl [-1, f.carrier]).find? (fun p => decide (f.ready <= tOf sl p)) = spare s f true := by
 unfold openL spare
 rw [List.find?_filter, List.find?_filter, R.sl]
 apply range_find
 intro i hi
 rw [R.held]
 have e : ([(-1 : Int), f.carrier].contains (oI (oOf sl i))) = (decide (ownerOf s i = none) || decide (ownerOf s i = some f.carrier)) := by
  have : ownerOf s i = oOf sl i := by rw [ownerOf_eq, R.sl]
  rw [this]
  cases h : oOf sl i with
  | none => simp [oI]
  | some d =>
   have h0 : 0 <= d := R.own0 h
   have : ¬ d = -1 := by omega
   simp [oI, this]
 rw [e]
 simp only [fitsAt, timeOf_eq, R.sl, hi, decide_true, Bool.true_and, Bool.not_not]
 cases decide (f.ready <= tOf sl i) <;> cases isOpen s i <;> cases decide (ownerOf s i = none) <;> cases decide (ownerOf s i = some f.carrier) <;> rfl
def toldL (sl : List Slot) (f : Flight) : List Int := match f.place with
 | some p => [(p : Int) + 1, tOf sl p, late sl f]
 | none => [0, 0, 0]
theorem told_eq (s : State) (f : Flight) : placeTold s f = toldL s.slots f := rfl
theorem Rel.put (R : Rel sl fl g s) {f' : Flight} (w : Wf (setFlight s f')) : Rel sl (fl.map (putF f')) g (setFlight s f') :=
 ⟨R.sl, R.gv, R.pm.map _, w⟩
theorem Rel.putO (R : Rel sl fl g s) {f' : Flight} {p : Nat} {o : Option Int} (w : Wf (setOwner (setFlight s f') p o)) : Rel (ownAt sl p o) (fl.map (putF f')) g (setOwner (setFlight s f') p o) :=
 ⟨by rw [setOwner_eq]; show ownAt s.slots p o = _; rw [R.sl], R.gv, R.pm.map _, w⟩
theorem Rel.addO (R : Rel sl fl g s) {f : Flight} {p : Nat} {o : Option Int} (hn : ∀ k ∈ s.flights, k.id ≠ f.id) (w : Wf (setOwner { s with flights := withFlight s.flights f } p o)) : Rel (ownAt sl p o) (fl ++ [f]) g (setOwner { s with flights := withFlight s.flights f } p o) :=
 ⟨by rw [setOwner_eq]; show ownAt s.slots p o = _; rw [R.sl], R.gv, ((List.perm_append_singleton f fl).trans ((R.pm.cons f))).trans (withFlight_perm hn).symm, w⟩
theorem Rel.add (R : Rel sl fl g s) {f : Flight} (hn : ∀ k ∈ s.flights, k.id ≠ f.id) (w : Wf { s with flights := withFlight s.flights f }) : Rel sl (fl ++ [f]) g { s with flights := withFlight s.flights f } :=
 ⟨R.sl, R.gv, ((List.perm_append_singleton f fl).trans ((R.pm.cons f))).trans (withFlight_perm hn).symm, w⟩
def turnL (sl : List Slot) : List Flight -> List Nat -> Option (List (Flight × Nat))
 | [], _ => some []
 | f :: r, free => match free.find? fun p => decide (f.ready <= tOf sl p) with
  | none => none
  | some p => match turnL sl r (free.erase p) with
   | none => none
   | some l => some ((f, p) :: l)
theorem turnL_eq (s : State) : ∀ (l : List Flight) (taken : List Nat), turnL s.slots l ((List.range s.slots.length).filter fun p => !taken.contains p) = inTurn s l taken
 | [], _ => rfl
 | f :: r, taken => by
  unfold turnL inTurn
  have e : ((List.range s.slots.length).filter fun p => !taken.contains p).find? (fun p => decide (f.ready <= tOf s.slots p)) = firstFor s f taken := by
   unfold firstFor
   rw [List.find?_filter]
   apply range_find
   intro i hi
   have hf : fitsAt s f i = decide (f.ready <= tOf s.slots i) := by
    unfold fitsAt
    rw [decide_eq_true hi, Bool.true_and]
    rfl
   rw [hf, Bool.decide_and, Bool.decide_eq_true, Bool.decide_eq_true, Bool.and_comm]
  rw [e]
  cases h : firstFor s f taken with
  | none => rfl
  | some p =>
   simp only
   have hn : ((List.range s.slots.length).filter fun p => !taken.contains p).Nodup := List.nodup_range.filter _
   have e2 : ((List.range s.slots.length).filter fun p => !taken.contains p).erase p = (List.range s.slots.length).filter fun q => !(p :: taken).contains q := by
    rw [hn.erase_eq_filter, List.filter_filter]
    apply List.filter_congr
    intro q _
    by_cases hq : q = p
    ·simp [hq]
    ·simp [hq]
   rw [e2, turnL_eq s r (p :: taken)]
   cases inTurn s r (p :: taken) <;> rfl
theorem Rel.turns (R : Rel sl fl g s) (l : List Flight) : turnL sl l (List.range sl.length) = inTurn s l [] := by
 have := turnL_eq s l []
 rw [R.sl] at this
 rw [<- this]
 congr 1
 exact (List.filter_eq_self.mpr fun _ _ => rfl).symm
def bareL (sl : List Slot) : List Slot := sl.map fun x => { x with owner := none }
def giveS (sl : List Slot) (l : List (Flight × Nat)) : List Slot := l.foldl (fun a y => ownAt a y.2 (some y.1.carrier)) sl
def giveF (fl : List Flight) (l : List (Flight × Nat)) : List Flight := l.foldl (fun a y => a.map fun f => if f.id = y.1.id then { f with place := if f.gone = true then none else some y.2 } else f) fl
theorem giveS_get : ∀ (l : List (Flight × Nat)) (sl : List Slot) (q : Nat), (l.map (·.2)).Nodup ->
  (giveS sl l)[q]? = (sl[q]?).map fun x => match l.find? fun y => decide (y.2 = q) with
   | some y => { x with owner := some y.1.carrier }
   | none => x
 | [], sl, q, _ => by
  show sl[q]? = _
  cases sl[q]? <;> rfl
 | y :: l, sl, q, hn => by
  obtain ⟨h1, h2⟩ := List.nodup_cons.mp (show (y.2 :: l.map (·.2)).Nodup from hn)
  show (giveS (ownAt sl y.2 (some y.1.carrier)) l)[q]? = _
  rw [giveS_get l _ q h2, ownAt_get]
  by_cases e : y.2 = q
  ·have hno : (l.find? fun z => decide (z.2 = q)) = none := by
    rw [List.find?_eq_none]
    intro z hz hz'
    exact h1 (List.mem_map.mpr ⟨z, hz, by rw [e]; simpa using hz'⟩)
   rw [hno, List.find?_cons]
   cases sl[q]? <;> simp [e]
  ·rw [List.find?_cons]
   have e' : ¬ q = y.2 := fun z => e z.symm
   cases sl[q]? <;> simp [e, e']
theorem giveF_eq : ∀ (l : List (Flight × Nat)) (fl : List Flight), (l.map (·.1.id)).Nodup -> (∀ f ∈ fl, ∃ y ∈ l, y.1.id = f.id) \/ True ->
  giveF fl l = fl.map fun f => match l.find? fun y => decide (y.1.id = f.id) with
   | some y => { f with place := if f.gone = true then none else some y.2 }
   | none => f
 | [], fl, _, _ => by
  show fl = _
  exact (List.map_id fl).symm
 | y :: l, fl, hn, _ => by
  obtain ⟨h1, h2⟩ := List.nodup_cons.mp (show (y.1.id :: l.map (·.1.id)).Nodup from hn)
  show giveF (fl.map _) l = _
  rw [giveF_eq l _ h2 (.inr trivial), List.map_map]
  apply List.map_congr_left
  intro f _
  show (match l.find? fun z => decide (z.1.id = (if f.id = y.1.id then { f with place := if f.gone = true then none else some y.2 } else f).id) with
   | some z => _
   | none => _) = _
  by_cases e : f.id = y.1.id
  ·have hno : (l.find? fun z => decide (z.1.id = f.id)) = none := by
    rw [List.find?_eq_none]
    intro z hz hz'
    exact h1 (List.mem_map.mpr ⟨z, hz, by rw [<- e]; simpa using hz'⟩)
   simp only [if_pos e]
   rw [hno, List.find?_cons]
   simp [e]
  ·simp only [if_neg e]
   rw [List.find?_cons]
   have e' : ¬ y.1.id = f.id := fun z => e z.symm
   simp [e']
theorem Rel.rationed (R : Rel sl fl g s) {l : List (Flight × Nat)} (h : inTurn s (sortBy rank s.flights) [] = some l) :
  ∃ t, ration s = some t /\ Rel (giveS (bareL sl) l) (giveF fl l) true t := by
 obtain ⟨a, b, c⟩ := inTurn_some h
 have P : (l.map (·.1)).Perm s.flights := by rw [a]; exact sortBy_perm _ _
 have idn : (l.map fun y => y.1.id).Nodup := by
  have := (P.map (·.id)).nodup_iff.mpr (ids_nodup R.wf.ids)
  rw [List.map_map] at this
  exact this
 have hr : ration s = some { s with
   given := true
   slots := s.slots.zipIdx.map fun x => { x.1 with owner := (l.find? fun y => decide (y.2 = x.2)).map fun y => y.1.carrier }
   flights := s.flights.map fun f => { f with place := if f.gone = true then none else (l.find? fun y => decide (y.1.id = f.id)).map fun y => y.2 } } := by
  unfold ration
  rw [h]
 refine ⟨_, hr, ?_, rfl, ?_, ration_wf R.wf hr⟩
 ·show (s.slots.zipIdx.map fun (x : Slot × Nat) => { x.1 with owner := (l.find? fun (y : Flight × Nat) => decide (y.2 = x.2)).map fun (y : Flight × Nat) => y.1.carrier }) = _
  apply List.ext_getElem?
  intro q
  rw [giveS_get l _ q b]
  unfold bareL
  simp only [List.getElem?_map, List.getElem?_zipIdx, R.sl]
  cases sl[q]? with
  | none => rfl
  | some x =>
   simp only [Option.map_some, Nat.zero_add]
   cases l.find? fun y => decide (y.2 = q) <;> rfl
 ·have e : giveF fl l = fl.map fun f => { f with place := if f.gone = true then none else (l.find? fun y => decide (y.1.id = f.id)).map fun y => y.2 } := by
   rw [giveF_eq l fl idn (.inr trivial)]
   apply List.map_congr_left
   intro f hf
   obtain ⟨y, hy, e⟩ := List.mem_map.mp (P.mem_iff.mpr (R.mem.mp hf))
   have hid : y.1.id = f.id := by rw [e]
   rw [find_of_nodup (k := fun (y : Flight × Nat) => y.1.id) idn hy hid]
   rfl
  rw [e]
  exact R.pm.map _
def comersL (sl : List Slot) (fl : List Flight) (p : Nat) : List Flight := (fl.filter fun f => !f.gone).filter fun f => decide ((p : Int) + 1 < pI f.place) && decide (f.ready <= tOf sl p)
theorem Rel.comers (R : Rel sl fl g s) {p : Nat} (hp : p < sl.length) : (comersL sl fl p).Perm (s.flights.filter (mayCome s p)) := by
 unfold comersL
 rw [List.filter_filter]
 refine (R.pm.filter _).trans (List.Perm.of_eq ?_)
 apply List.filter_congr
 intro f _
 unfold mayCome fitsAt
 rw [timeOf_eq, R.sl]
 cases h : f.place with
 | none =>
  have : ¬ (p : Int) + 1 < pI none := by rw [pI_n]; omega
  simp [this]
 | some q =>
  have e : (decide ((p : Int) + 1 < pI (some q))) = decide (p < q) := by
   rw [pI_s]
   apply decide_eq_decide.mpr
   omega
  rw [e]
  simp only [hp, decide_true, Bool.true_and]
  cases f.gone <;> cases decide (p < q) <;> cases decide (f.ready <= tOf sl p) <;> rfl
theorem nearest_of {l : List Flight} {f : Flight} (hf : f ∈ l) (hpl : ∀ a ∈ l, ∃ q, a.place = some q) (hu : ∀ a ∈ l, ∀ b ∈ l, ∀ q, a.place = some q -> b.place = some q -> a = b) (hm : ∀ a ∈ l, pI f.place <= pI a.place) : nearest l = some f := by
 unfold nearest
 refine head_least hf (fun a ha b hb e => ?_) fun x hx => ?_
 ·obtain ⟨q, hq⟩ := hpl a ha
  obtain ⟨r, hr⟩ := hpl b hb
  rw [hq, hr] at e
  have : q = r := by
   injection e with e _
   exact Int.ofNat.inj e
  subst this
  exact hu a ha b hb q hq hr
 ·obtain ⟨q, hq⟩ := hpl x hx
  obtain ⟨r, hr⟩ := hpl f hf
  have := hm x hx
  rw [hq, hr] at this ⊢
  rw [pI_s, pI_s] at this
  simp [rowLess]
  omega
theorem Rel.comer_some (R : Rel sl fl g s) {p : Nat} (hp : p < sl.length) {f : Flight}
  (h : if ((comersL sl fl p).filter fun f => decide (f.carrier = oI (oOf sl p))) = [] then f ∈ comersL sl fl p /\ ∀ a ∈ comersL sl fl p, pI f.place <= pI a.place
   else (f ∈ (comersL sl fl p).filter fun f => decide (f.carrier = oI (oOf sl p))) /\ ∀ a ∈ (comersL sl fl p).filter fun f => decide (f.carrier = oI (oOf sl p)), pI f.place <= pI a.place) : comer s p = some f := by
 have P := R.comers hp
 have eo : ∀ a ∈ s.flights, decide (ownerOf s p = some a.carrier) = decide (a.carrier = oI (oOf sl p)) := fun a ha => by
  apply decide_eq_decide.mpr
  have h0 : 0 <= a.carrier := (R.wf.fo a ha).c0
  rw [ownerOf_eq, R.sl]
  exact ⟨fun e => ((oI_some h0).mpr e).symm, fun e => (oI_some h0).mp e.symm⟩
 have P2 : ((comersL sl fl p).filter fun f => decide (f.carrier = oI (oOf sl p))).Perm ((s.flights.filter (mayCome s p)).filter fun f => decide (ownerOf s p = some f.carrier)) := by
  refine (P.filter _).trans (List.Perm.of_eq ?_)
  apply List.filter_congr
  intro a ha
  exact (eo a (List.mem_filter.mp ha).1).symm
 have plc : ∀ a ∈ s.flights.filter (mayCome s p), ∃ q, a.place = some q := fun a ha => by
  obtain ⟨_, ⟨q, hq, _⟩, _⟩ := mayCome_iff.mp (List.mem_filter.mp ha).2
  exact ⟨q, hq⟩
 have uni : ∀ a ∈ s.flights.filter (mayCome s p), ∀ b ∈ s.flights.filter (mayCome s p), ∀ q, a.place = some q -> b.place = some q -> a = b := fun a ha b hb q => R.wf.inj a (List.mem_filter.mp ha).1 b (List.mem_filter.mp hb).1 q
 unfold comer
 simp only
 split at h
 ·rename_i hnil
  have : nearest ((s.flights.filter (mayCome s p)).filter fun f => decide (ownerOf s p = some f.carrier)) = none := by
   rw [hnil] at P2
   rw [List.nil_perm.mp P2]
   rfl
  rw [this]
  exact nearest_of (P.mem_iff.mp h.1) plc uni fun a ha => h.2 a (P.mem_iff.mpr ha)
 ·have := nearest_of (P2.mem_iff.mp h.1) (fun a ha => plc a (List.mem_filter.mp ha).1) (fun a ha b hb => uni a (List.mem_filter.mp ha).1 b (List.mem_filter.mp hb).1) fun a ha => h.2 a (P2.mem_iff.mpr ha)
  rw [this]
theorem Rel.comer_none (R : Rel sl fl g s) {p : Nat} (hp : p < sl.length) (h : comersL sl fl p = []) : comer s p = none := by
 have P := R.comers hp
 rw [h] at P
 unfold comer
 rw [List.nil_perm.mp P]
 rfl
theorem Rel.moved (R : Rel sl fl g s) {p q : Nat} {f : Flight} (hf : f ∈ fl) (ho : isOpen s p = true) (hq : f.place = some q) (hm : mayCome s p f = true) :
  Rel (ownAt (ownAt sl q (oOf sl p)) p (some f.carrier)) (fl.map (putF { f with place := some p })) g (moveUp s p f) := by
 have w := moveUp_wf R.wf ho (R.mem.mp hf) hm
 have e : moveUp s p f = { slots := ownAt (ownAt s.slots q (oOf s.slots p)) p (some f.carrier), flights := s.flights.map (putF { f with place := some p }), given := s.given } := by
  unfold moveUp
  rw [hq]
  rfl
 refine ⟨by rw [e, R.sl], by rw [e]; exact R.gv, by rw [e]; exact R.pm.map _, w⟩
def giveB (sl : List Slot) (c : Int) : List Nat -> List Flight -> List (Flight × Nat)
 | [], _ => []
 | p :: r, l => match (if oI (oOf sl p) = c then l.find? (fun f => decide (f.ready <= tOf sl p)) else none) with
  | none => giveB sl c r l
  | some f => (f, p) :: giveB sl c r (l.erase f)
def wkey (f : Flight) : List Int := [- f.weight, f.id]
theorem find_head_filter {α : Type} {p : α -> Bool} (l : List α) : l.find? p = (l.filter p).head? := by
 induction l with
 | nil => rfl
 | cons a r ih =>
  rw [List.find?_cons, List.filter_cons]
  cases p a with
  | true => rfl
  | false => simpa using ih
theorem giveB_eq (s : State) (c : Int) (h0 : 0 <= c) : ∀ (ps : List Nat) (l m : List Flight), (∀ p ∈ ps, p < s.slots.length) -> m.Perm l -> (∀ a ∈ l, ∀ b ∈ l, a.id = b.id -> a = b) -> l.Nodup -> m.Pairwise (fun a b => rowLess (wkey b) (wkey a) = false) ->
  giveB s.slots c ps m = byWeight s (ps.filter fun p => decide (ownerOf s p = some c)) l
 | [], l, m, _, _, _, _, _ => rfl
 | p :: r, l, m, hps, P, hid, hnd, hs => by
  have hr : ∀ q ∈ r, q < s.slots.length := fun q hq => hps q (List.mem_cons_of_mem _ hq)
  unfold giveB
  by_cases ho : oI (oOf s.slots p) = c
  ·have ho' : ownerOf s p = some c := (oI_some h0).mp ho
   have efil : ((p :: r).filter fun p => decide (ownerOf s p = some c)) = p :: r.filter fun p => decide (ownerOf s p = some c) := by
    rw [List.filter_cons, if_pos (decide_eq_true ho')]
   rw [efil]
   unfold byWeight
   have hk : ∀ a ∈ l.filter fun f => fitsAt s f p, ∀ b ∈ l.filter fun f => fitsAt s f p, wkey a = wkey b -> a = b := fun a ha b hb e => by
    unfold wkey at e
    injection e with _ e
    injection e with e _
    exact hid a (List.mem_filter.mp ha).1 b (List.mem_filter.mp hb).1 e
   have ef : (m.filter fun f => decide (f.ready <= tOf s.slots p)) = m.filter fun f => fitsAt s f p := by
    apply List.filter_congr
    intro f _
    unfold fitsAt
    rw [timeOf_eq]
    simp [hps p List.mem_cons_self]
   have e1 : (if oI (oOf s.slots p) = c then m.find? (fun f => decide (f.ready <= tOf s.slots p)) else none) = (sortBy wkey (l.filter fun f => fitsAt s f p)).head? := by
    rw [if_pos ho, find_head_filter, ef]
    exact (head_sorted (P.filter _) hk (hs.filter _)).symm
   rw [e1]
   show (match (sortBy wkey (l.filter fun f => fitsAt s f p)).head? with | none => _ | some f => _) = match (sortBy wkey (l.filter fun f => fitsAt s f p)).head? with | none => _ | some f => _
   cases hh : (sortBy wkey (l.filter fun f => fitsAt s f p)).head? with
   | none => exact giveB_eq s c h0 r l m hr P hid hnd hs
   | some f =>
    simp only
    have hfl : f ∈ l := (List.mem_filter.mp (mem_sortBy.mp (List.mem_of_head? hh))).1
    have el : (l.filter fun x => decide (x.id ≠ f.id)) = l.erase f := by
     rw [hnd.erase_eq_filter]
     apply List.filter_congr
     intro x hx
     by_cases e : x = f
     ·simp [e]
     ·have : x.id ≠ f.id := fun z => e (hid x hx f hfl z)
      simp [e, this]
    rw [el]
    congr 1
    refine giveB_eq s c h0 r (l.erase f) (m.erase f) hr (P.erase f) (fun a ha b hb => hid a (List.mem_of_mem_erase ha) b (List.mem_of_mem_erase hb)) (hnd.erase f) ?_
    exact hs.sublist List.erase_sublist
  ·have ho' : ¬ ownerOf s p = some c := fun e => ho ((oI_some h0).mpr e)
   have efil : ((p :: r).filter fun p => decide (ownerOf s p = some c)) = r.filter fun p => decide (ownerOf s p = some c) := by
    rw [List.filter_cons, if_neg (by rw [decide_eq_true_eq]; exact ho')]
   rw [efil, if_neg ho]
   exact giveB_eq s c h0 r l m hr P hid hnd hs
def putB (fl : List Flight) (l : List (Flight × Nat)) : List Flight := l.foldl (fun a y => a.map (putF { y.1 with place := some y.2 })) fl
theorem putB_eq : ∀ (l : List (Flight × Nat)) (fl : List Flight), (l.map (·.1.id)).Nodup -> (∀ y ∈ l, ∀ f ∈ fl, f.id = y.1.id -> { f with place := some y.2 } = { y.1 with place := some y.2 }) -> putB fl l = fl.map (bestF l)
 | [], fl, _, _ => (List.map_id fl).symm
 | y :: l, fl, hn, hm => by
  obtain ⟨h1, h2⟩ := List.nodup_cons.mp (show (y.1.id :: l.map (·.1.id)).Nodup from hn)
  show putB (fl.map _) l = _
  rw [putB_eq l _ h2, List.map_map]
  ·apply List.map_congr_left
   intro f hf
   show bestF l (putF { y.1 with place := some y.2 } f) = bestF (y :: l) f
   rcases putF_cases { y.1 with place := some y.2 } f with ⟨a, b⟩ | ⟨a, b⟩
   ·rw [b]
    have a : f.id = y.1.id := a
    have hno : (l.find? fun z => decide (z.1.id = y.1.id)) = none := by
     rw [List.find?_eq_none]
     intro z hz hz'
     exact h1 (List.mem_map.mpr ⟨z, hz, by simpa using hz'⟩)
    have e1 : bestF l { y.1 with place := some y.2 } = { y.1 with place := some y.2 } := by
     show (match l.find? fun z => decide (z.1.id = y.1.id) with | some x => _ | none => _) = _
     rw [hno]
    have e2 : bestF (y :: l) f = { f with place := some y.2 } := by
     show (match (y :: l).find? fun z => decide (z.1.id = f.id) with | some x => _ | none => _) = _
     rw [List.find?_cons]
     simp [a]
    rw [e1, e2]
    exact (hm y List.mem_cons_self f hf a).symm
   ·rw [b]
    have a : f.id ≠ y.1.id := a
    show (match l.find? fun z => decide (z.1.id = f.id) with | some x => _ | none => _) = (match (y :: l).find? fun z => decide (z.1.id = f.id) with | some x => _ | none => _)
    rw [List.find?_cons]
    have : ¬ y.1.id = f.id := fun z => a z.symm
    simp [this]
  ·intro z hz f hf e
   obtain ⟨f', hf', rfl⟩ := List.mem_map.mp hf
   rcases putF_cases { y.1 with place := some y.2 } f' with ⟨a, b⟩ | ⟨a, b⟩
   ·rw [b] at e
    exact (h1 (List.mem_map.mpr ⟨z, hz, e.symm⟩)).elim
   ·rw [b] at e ⊢
    exact hm z (List.mem_cons_of_mem _ hz) f' hf' e
theorem Rel.bested (R : Rel sl fl true s) {c : Int} (h0 : 0 <= c) {m : List Flight} (P : m.Perm ((fl.filter fun f => !f.gone).filter fun f => decide (f.carrier = c))) (hs : m.Pairwise (fun a b => rowLess (wkey b) (wkey a) = false)) :
  Rel sl (putB fl (giveB sl c (List.range sl.length) m)) true (best s c) := by
 have hnd : ((Vbahas.live s).filter fun f => decide (f.carrier = c)).Nodup := by
  have : s.flights.Nodup := by
   rw [List.nodup_iff_pairwise_ne]
   exact R.wf.ids.imp fun {a b} h e => by rw [e] at h; omega
  exact (this.filter _).filter _
 have e : giveB sl c (List.range sl.length) m = byWeight s (ownSlots s c) ((Vbahas.live s).filter fun f => decide (f.carrier = c)) := by
  rw [<- R.sl]
  exact giveB_eq s c h0 _ _ _ (fun p hp => List.mem_range.mp hp) (P.trans (R.liveC c)) (fun a ha b hb => R.wf.id_inj (own_flights.mp ha).1 (own_flights.mp hb).1) hnd hs
 have idn := (byWeight_nodup (s := s) (l := (Vbahas.live s).filter fun f => decide (f.carrier = c)) ((ownSlots_pw s c).imp fun h => Nat.ne_of_lt h)).2
 rw [e, putB_eq _ _ idn]
 ·exact ⟨R.sl, R.gv, by rw [best_eq]; exact R.pm.map _, best_wf R.wf R.gv c⟩
 ·intro y hy f hf e
  have := (own_flights.mp (byWeight_mem hy).1).1
  rw [R.wf.id_inj (R.mem.mp hf) this e]
end
end SH
end
section
namespace SH
open Vbahas
def num : Call -> Int
 | .slots _ _ _ => 0
 | .flight _ _ _ _ => 1
 | .exempt _ _ => 2
 | .ready _ _ => 3
 | .cancel _ => 4
 | .ration => 5
 | .compress => 6
 | .swap _ _ => 7
 | .best _ => 8
 | .trade _ _ _ _ => 9
 | .release _ => 10
 | .slot _ => 11
 | .table => 12
 | .carrier _ => 13
 | .total => 14
 | .queue _ => 15
 | .rival _ => 16
 | .open_ => 17
def args : Call -> List Int
 | .slots a g n => [a, g, n]
 | .flight i c t w => [i, c, t, w]
 | .exempt i y => [i, y]
 | .ready i t => [i, t]
 | .cancel i => [i]
 | .swap a b => [a, b]
 | .best c => [c]
 | .trade a b c d => [a, b, c, d]
 | .release p => [p]
 | .slot i => [i]
 | .carrier c => [c]
 | .queue l => (l.length : Int) :: l
 | .rival l => (l.length : Int) :: l
 | _ => []
def rowsOf : Call -> List (List Int)
 | .queue l => [[15], l]
 | .rival l => [[16], l]
 | c => [num c :: args c]
def flat (c : Call) : List Int := num c :: args c
def stepC (s : State) (c : Call) : State × List Int := if inRange c = true then step s c else (s, [-2])
def runC (s : State) : List Call -> List (List Int)
 | [] => []
 | c :: r => (stepC s c).2 :: runC (stepC s c).1 r
def endC (s : State) : List Call -> State
 | [] => s
 | c :: r => endC (stepC s c).1 r
theorem rows_step (s : State) (c : Call) : VbahasNeutral.step s (PyVbahas.whole (rowsOf c)) = stepC s c := by
 cases c <;> rfl
theorem stepC_wf {s : State} (w : Wf s) (c : Call) : Wf (stepC s c).1 := by
 unfold stepC
 split
 ·exact step_wf w (by assumption)
 ·exact w
def Ask : Call -> Prop
 | .queue l => l.length <= 100
 | .rival l => l.length <= 100
 | _ => True
theorem one_call {p : Int} {r : List Int} {c : List (List Int)} {t : List Int} (h : PyFlat.call PyVbahas.shape (p :: r) = some (c, t)) : ∃ k : Call, c = rowsOf k /\ p :: r = flat k ++ t := by
 have cut : ∀ {n : Nat} {r : List Int} {c : List (List Int)} {t : List Int}, (if r.length < n then none else match PyFlat.rows 0 (r.drop n) with | none => none | some (xs, t) => some ((p :: r.take n) :: xs, t)) = some (c, t) -> n <= r.length /\ c = [p :: r.take n] /\ t = r.drop n := by
  intro n r c t h
  split at h
  ·cases h
  ·rename_i hl
   simp only [PyFlat.rows, Option.some.injEq, Prod.mk.injEq] at h
   exact ⟨by omega, h.1.symm, h.2.symm⟩
 have cutR : ∀ {r : List Int} {c : List (List Int)} {t : List Int}, (if r.length < 0 then none else match PyFlat.rows 1 (r.drop 0) with | none => none | some (xs, t) => some ((p :: r.take 0) :: xs, t)) = some (c, t) -> ∃ l : List Int, r = (l.length : Int) :: (l ++ t) /\ c = [[p], l] := by
  intro r c t h
  rw [if_neg (by omega)] at h
  simp only [PyFlat.rows, List.drop_zero, List.take_zero] at h
  cases r with
  | nil => simp [PyFlat.row] at h
  | cons n r =>
   simp only [PyFlat.row] at h
   by_cases hn : 0 <= n /\ n.toNat <= r.length
   ·rw [if_pos hn] at h
    simp only [Option.some.injEq, Prod.mk.injEq] at h
    refine ⟨r.take n.toNat, ?_, h.1.symm⟩
    rw [<- h.2, List.take_append_drop, List.length_take, Nat.min_eq_left hn.2, Int.toNat_of_nonneg hn.1]
   ·rw [if_neg hn] at h
    cases h
 have l0 : ∀ {r : List Int}, r = [] ++ r := rfl
 unfold PyFlat.call at h
 dsimp only at h
 unfold PyVbahas.shape at h
 by_cases h0 : p = 0
 ·subst h0
  rw [if_pos rfl] at h
  obtain ⟨hl, rfl, rfl⟩ := cut h
  match r, hl with
  | x0 :: x1 :: x2 :: r, _ => exact ⟨.slots x0 x1 x2, rfl, rfl⟩
 rw [if_neg h0] at h
 by_cases h1 : p = 1
 ·subst h1
  rw [if_pos rfl] at h
  obtain ⟨hl, rfl, rfl⟩ := cut h
  match r, hl with
  | x0 :: x1 :: x2 :: x3 :: r, _ => exact ⟨.flight x0 x1 x2 x3, rfl, rfl⟩
 rw [if_neg h1] at h
 by_cases h2 : p = 2
 ·subst h2
  rw [if_pos rfl] at h
  obtain ⟨hl, rfl, rfl⟩ := cut h
  match r, hl with
  | x0 :: x1 :: r, _ => exact ⟨.exempt x0 x1, rfl, rfl⟩
 rw [if_neg h2] at h
 by_cases h3 : p = 3
 ·subst h3
  rw [if_pos rfl] at h
  obtain ⟨hl, rfl, rfl⟩ := cut h
  match r, hl with
  | x0 :: x1 :: r, _ => exact ⟨.ready x0 x1, rfl, rfl⟩
 rw [if_neg h3] at h
 by_cases h4 : p = 4
 ·subst h4
  rw [if_pos rfl] at h
  obtain ⟨hl, rfl, rfl⟩ := cut h
  match r, hl with
  | x0 :: r, _ => exact ⟨.cancel x0, rfl, rfl⟩
 rw [if_neg h4] at h
 by_cases h5 : p = 5
 ·subst h5
  rw [if_pos rfl] at h
  obtain ⟨hl, rfl, rfl⟩ := cut h
  exact ⟨.ration, rfl, rfl⟩
 rw [if_neg h5] at h
 by_cases h6 : p = 6
 ·subst h6
  rw [if_pos rfl] at h
  obtain ⟨hl, rfl, rfl⟩ := cut h
  exact ⟨.compress, rfl, rfl⟩
 rw [if_neg h6] at h
 by_cases h7 : p = 7
 ·subst h7
  rw [if_pos rfl] at h
  obtain ⟨hl, rfl, rfl⟩ := cut h
  match r, hl with
  | x0 :: x1 :: r, _ => exact ⟨.swap x0 x1, rfl, rfl⟩
 rw [if_neg h7] at h
 by_cases h8 : p = 8
 ·subst h8
  rw [if_pos rfl] at h
  obtain ⟨hl, rfl, rfl⟩ := cut h
  match r, hl with
  | x0 :: r, _ => exact ⟨.best x0, rfl, rfl⟩
 rw [if_neg h8] at h
 by_cases h9 : p = 9
 ·subst h9
  rw [if_pos rfl] at h
  obtain ⟨hl, rfl, rfl⟩ := cut h
  match r, hl with
  | x0 :: x1 :: x2 :: x3 :: r, _ => exact ⟨.trade x0 x1 x2 x3, rfl, rfl⟩
 rw [if_neg h9] at h
 by_cases h10 : p = 10
 ·subst h10
  rw [if_pos rfl] at h
  obtain ⟨hl, rfl, rfl⟩ := cut h
  match r, hl with
  | x0 :: r, _ => exact ⟨.release x0, rfl, rfl⟩
 rw [if_neg h10] at h
 by_cases h11 : p = 11
 ·subst h11
  rw [if_pos rfl] at h
  obtain ⟨hl, rfl, rfl⟩ := cut h
  match r, hl with
  | x0 :: r, _ => exact ⟨.slot x0, rfl, rfl⟩
 rw [if_neg h11] at h
 by_cases h12 : p = 12
 ·subst h12
  rw [if_pos rfl] at h
  obtain ⟨hl, rfl, rfl⟩ := cut h
  exact ⟨.table, rfl, rfl⟩
 rw [if_neg h12] at h
 by_cases h13 : p = 13
 ·subst h13
  rw [if_pos rfl] at h
  obtain ⟨hl, rfl, rfl⟩ := cut h
  match r, hl with
  | x0 :: r, _ => exact ⟨.carrier x0, rfl, rfl⟩
 rw [if_neg h13] at h
 by_cases h14 : p = 14
 ·subst h14
  rw [if_pos rfl] at h
  obtain ⟨hl, rfl, rfl⟩ := cut h
  exact ⟨.total, rfl, rfl⟩
 rw [if_neg h14] at h
 by_cases h15 : p = 15
 ·subst h15
  rw [if_pos rfl] at h
  obtain ⟨l, rfl, rfl⟩ := cutR h
  exact ⟨.queue l, rfl, rfl⟩
 rw [if_neg h15] at h
 by_cases h16 : p = 16
 ·subst h16
  rw [if_pos rfl] at h
  obtain ⟨l, rfl, rfl⟩ := cutR h
  exact ⟨.rival l, rfl, rfl⟩
 rw [if_neg h16] at h
 by_cases h17 : p = 17
 ·subst h17
  rw [if_pos rfl] at h
  obtain ⟨hl, rfl, rfl⟩ := cut h
  exact ⟨.open_, rfl, rfl⟩
 rw [if_neg h17] at h
 cases h
theorem all_calls : ∀ (f : Nat) {l : List Int} {cs : List (List (List Int))}, PyFlat.calls PyVbahas.shape f l = some cs -> ∃ ks : List Call, cs = ks.map rowsOf /\ l = ks.flatMap flat
 | _, [], cs, h => by
  have : cs = [] := by
   unfold PyFlat.calls at h
   exact (Option.some.inj h).symm
  subst this
  exact ⟨[], rfl, rfl⟩
 | 0, p :: r, cs, h => by
  unfold PyFlat.calls at h
  cases h
 | f + 1, p :: r, cs, h => by
  unfold PyFlat.calls at h
  cases hc : PyFlat.call PyVbahas.shape (p :: r) with
  | none => rw [hc] at h; cases h
  | some x =>
   obtain ⟨c, t⟩ := x
   rw [hc] at h
   dsimp only at h
   cases ht : PyFlat.calls PyVbahas.shape f t with
   | none => rw [ht] at h; cases h
   | some cs' =>
    rw [ht] at h
    have h : c :: cs' = cs := Option.some.inj h
    obtain ⟨k, rfl, e⟩ := one_call hc
    obtain ⟨ks, rfl, e'⟩ := all_calls f ht
    refine ⟨k :: ks, h.symm, ?_⟩
    rw [e, e']
    rfl
theorem played_eq : ∀ (ks : List Call) (s : State), PyFlat.played VbahasNeutral.step s ((ks.map rowsOf).map PyVbahas.whole) = runC s ks
 | [], s => rfl
 | c :: r, s => by
  show (VbahasNeutral.step s (PyVbahas.whole (rowsOf c))).2 :: PyFlat.played VbahasNeutral.step (VbahasNeutral.step s (PyVbahas.whole (rowsOf c))).1 ((r.map rowsOf).map PyVbahas.whole) = _
  rw [rows_step, played_eq r]
  rfl
theorem asked_row {l : List Int} (c : List Int) (h : VbahasNeutral.row l = true) : l.length <= 100 := by
 unfold VbahasNeutral.row at h
 simp only [Bool.and_eq_true, decide_eq_true_eq] at h
 exact h.1
theorem asked_of {k : Call} (h : VbahasNeutral.asked1 (PyVbahas.whole (rowsOf k)) = true) : Ask k := by
 cases k with
 | queue l => exact asked_row [] h
 | rival l => exact asked_row [] h
 | _ => trivial
theorem asked_calls {l : List Int} (h : PyVbahas.answers_asked l = true) : ∃ ks : List Call, l = ks.flatMap flat /\ ks.length <= 200 /\ (∀ k ∈ ks, Ask k) /\ PyVbahas.answers l = PyFlat.told (runC start ks) := by
 unfold PyVbahas.answers_asked at h
 cases hc : PyVbahas.calls l with
 | none => rw [hc] at h; cases h
 | some cs =>
  rw [hc] at h
  unfold PyVbahas.answers
  rw [hc]
  unfold PyVbahas.calls at hc
  cases hf : PyFlat.calls PyVbahas.shape l.length l with
  | none => rw [hf] at hc; cases hc
  | some cs' =>
   rw [hf] at hc
   have hc : cs'.map PyVbahas.whole = cs := Option.some.inj hc
   obtain ⟨ks, rfl, e⟩ := all_calls _ hf
   subst hc
   simp only [PyFlat.atMost, VbahasNeutral.asked, Bool.and_eq_true, decide_eq_true_eq, List.length_map] at h
   refine ⟨ks, e, h.1, fun k hk => ?_, ?_⟩
   ·refine asked_of (List.all_eq_true.mp h.2.2.2 _ ?_)
    rw [List.map_map]
    exact List.mem_map.mpr ⟨k, hk, rfl⟩
   ·show PyFlat.told (PyFlat.played VbahasNeutral.step VbahasNeutral.start ((ks.map rowsOf).map PyVbahas.whole)) = _
    rw [played_eq]
    rfl
end SH
end
section
namespace SH
open Vbahas
section
variable {s : State}
theorem passOn_len : ∀ (k p : Nat) (s : State), (passOn k p s).2.length <= k
 | 0, _, _ => Nat.le_refl _
 | k + 1, p, s => by
  unfold passOn
  split
  ·split
   ·exact Nat.le_trans (passOn_len k (p + 1) s) (Nat.le_succ k)
   ·exact Nat.succ_le_succ (passOn_len k (p + 1) _)
  ·exact Nat.le_trans (passOn_len k (p + 1) s) (Nat.le_succ k)
theorem flat3_len {α : Type} (g : α -> List Int) (h : ∀ a, (g a).length = 3) : ∀ l : List α, (l.flatMap g).length = 3 * l.length
 | [] => rfl
 | a :: l => by rw [List.flatMap_cons, List.length_append, h, flat3_len g h l, List.length_cons]; omega
theorem place_len (s : State) (f : Flight) : (placeTold s f).length = 3 := by unfold placeTold; split <;> rfl
theorem turn_len : ∀ (l : List Flight) {t : List Nat} {r : List (Flight × Nat)}, inTurn s l t = some r -> r.length = l.length
 | [], _, _, h => by cases h; rfl
 | f :: l, t, r, h => by
  unfold inTurn at h
  split at h
  ·cases h
  ·split at h
   ·cases h
   ·rename_i x e
    cases h
    rw [List.length_cons, List.length_cons, turn_len l e]
theorem flightsOf_len : ∀ {l : List Int} {fs : List Flight}, flightsOf s l = some fs -> fs.length = l.length
 | [], _, h => by cases h; rfl
 | i :: l, fs, h => by
  unfold flightsOf at h
  split at h
  ·rename_i e
   cases h
   rw [List.length_cons, List.length_cons, flightsOf_len e]
  ·cases h
theorem step_len (w : Wf s) : ∀ {c : Call}, inRange c = true -> (step s c).2.length <= 362
 | .slots a g n, _ => by simp only [step]; split <;> (try split) <;> (try split) <;> simp
 | .flight i c t wt, _ => by
  simp only [step, stepFlight]
  split
  ·simp
  ·split
   ·simp
   ·split
    ·simp
    ·split
     ·simp
     ·rw [List.length_cons, place_len]; decide
 | .exempt i y, _ => by simp only [step]; split <;> simp
 | .ready i t, _ => by
  simp only [step, stepReady]
  split
  ·simp
  ·split
   ·simp
   ·split
    ·simp
    ·split
     ·simp
     ·split
      ·rw [List.length_cons, place_len]; decide
      ·split
       ·simp
       ·rw [List.length_cons, place_len]; decide
 | .cancel i, _ => by
  simp only [step]
  split
  ·simp
  ·split
   ·simp
   ·rw [List.length_cons, place_len]; decide
 | .ration, _ => by simp only [step]; split <;> simp
 | .compress, _ => by
  simp only [step]
  split
  ·simp
  ·have h1 := passOn_len s.slots.length 0 s
   have h2 := w.so.len
   rw [List.length_cons, List.length_cons, flat3_len _ (fun _ => rfl)]
   unfold Vbahas.compress
   omega
 | .swap a b, _ => by simp only [step, stepSwap]; split <;> (try split) <;> (try split) <;> (try split) <;> simp
 | .best c, _ => by simp only [step]; split <;> simp
 | .trade a b c d, _ => by simp only [step, stepTrade]; split <;> (try split) <;> (try split) <;> (try split) <;> (try split) <;> simp
 | .release p, _ => by simp only [step]; split <;> (try split) <;> simp
 | .slot i, _ => by
  simp only [step]
  split
  ·simp
  ·rw [List.length_cons, List.length_cons, place_len]; decide
 | .table, _ => by
  have h2 := w.so.len
  simp only [step]
  rw [List.length_cons, List.length_cons, flat3_len _ (fun _ => rfl), List.length_range]
  omega
 | .carrier c, _ => by simp [step]
 | .total, _ => by simp [step]
 | .queue l, h => by
  simp only [inRange, Bool.and_eq_true, decide_eq_true_eq] at h
  simp only [step]
  split
  ·simp
  ·split
   ·simp
   ·rename_i x e
    obtain ⟨fs, h1, h2⟩ := Option.bind_eq_some_iff.mp e
    rw [List.length_cons, List.length_cons, List.length_map, turn_len _ h2, flightsOf_len h1]
    omega
 | .rival l, _ => by simp only [step]; split <;> (try split) <;> simp
 | .open_, _ => by
  have h2 := w.so.len
  have h3 := List.length_filter_le (isOpen s) (List.range s.slots.length)
  rw [List.length_range] at h3
  simp only [step, List.length_cons, List.length_map]
  omega
theorem stepC_len (w : Wf s) (c : Call) : (stepC s c).2.length <= 362 := by
 unfold stepC
 split
 ·exact step_len w (by assumption)
 ·show 1 <= 362; decide
theorem runC_all : ∀ (ks : List Call) {s : State}, Wf s -> ∀ a ∈ runC s ks, a.length <= 362
 | [], s, w, a, h => (List.not_mem_nil h).elim
 | c :: r, s, w, a, h => by
  rcases List.mem_cons.mp h with e | h
  ·rw [e]; exact stepC_len w c
  ·exact runC_all r (stepC_wf w c) a h
theorem told_len : ∀ (l : List (List Int)), (∀ a ∈ l, a.length <= 362) -> (PyFlat.told l).length <= 363 * l.length
 | [], _ => Nat.le_refl _
 | a :: r, h => by
  have h1 := told_len r fun x hx => h x (List.mem_cons_of_mem _ hx)
  have h2 := h a List.mem_cons_self
  unfold PyFlat.told at h1 ⊢
  rw [List.flatMap_cons, List.length_append, List.length_cons, List.length_cons]
  omega
theorem runC_len : ∀ (ks : List Call) (s : State), (runC s ks).length = ks.length
 | [], s => rfl
 | c :: r, s => by show (runC (stepC s c).1 r).length + 1 = _; rw [runC_len r, List.length_cons]
end
end SH
end
section
namespace SH
open Vbahas
section
variable {sl : List Slot} {fl : List Flight} {g : Bool} {s : State}
theorem Rel.opens (R : Rel sl fl g s) : (List.range s.slots.length).filter (isOpen s) = (List.range sl.length).filter fun p => !heldP fl p := by
 rw [R.sl]
 apply List.filter_congr
 intro p _
 rw [R.held, Bool.not_not]
theorem own_count (sl : List Slot) {c : Int} (hc : 0 <= c) : ((List.range sl.length).filter fun p => decide (oOf sl p = some c)).length = (sl.filter fun x => decide (oI x.owner = c)).length := by
 have e : sl.map some = (List.range sl.length).map fun p => sl[p]? := by
  apply List.ext_getElem?
  intro i
  rw [List.getElem?_map, List.getElem?_map]
  by_cases h : i < sl.length
  ·rw [List.getElem?_range h, List.getElem?_eq_getElem h]
   show some (some sl[i]) = some (sl[i]?)
   rw [List.getElem?_eq_getElem h]
  ·rw [List.getElem?_eq_none (by omega), List.getElem?_eq_none (by rw [List.length_range]; omega)]; rfl
 let q : Option Slot -> Bool := fun o => match o with
  | some x => decide (x.owner = some c)
  | none => false
 have h1 : ((sl.map some).filter q).length = (sl.filter fun x => decide (oI x.owner = c)).length := by
  rw [List.filter_map, List.length_map]
  congr 1
  apply List.filter_congr
  intro x _
  show decide (x.owner = some c) = _
  exact decide_eq_decide.mpr (oI_some hc).symm
 rw [<- h1, e, List.filter_map, List.length_map]
 congr 1
 apply List.filter_congr
 intro p _
 show decide (oOf sl p = some c) = q (sl[p]?)
 unfold oOf
 cases sl[p]? <;> rfl
theorem Rel.owned (R : Rel sl fl g s) {c : Int} (hc : 0 <= c) : (ownSlots s c).length = (sl.filter fun x => decide (oI x.owner = c)).length := by
 rw [<- own_count sl hc]
 unfold ownSlots
 rw [R.sl]
 congr 1
 apply List.filter_congr
 intro p _
 rw [ownerOf_eq, R.sl]
theorem Rel.gone_no (R : Rel sl fl g s) {f : Flight} (hf : f ∈ fl) {p : Nat} (hp : f.place = some p) : f.gone = false := by
 cases h : f.gone with
 | false => rfl
 | true =>
  have := (R.fok hf).gone h
  rw [hp] at this; cases this
theorem Rel.holder_some (R : Rel sl fl g s) {f : Flight} (hf : f ∈ fl) {p : Nat} (hp : f.place = some p) : holder s p = some f := by
 have hl : f ∈ Vbahas.live s := List.mem_filter.mpr ⟨R.mem.mp hf, by rw [R.gone_no hf hp]; rfl⟩
 unfold holder
 cases h : (Vbahas.live s).find? fun f => decide (f.place = some p) with
 | none =>
  have := List.find?_eq_none.mp h f hl
  simp [hp] at this
 | some k =>
  have hk := List.mem_of_find?_eq_some h
  have hkp : k.place = some p := of_decide_eq_true (List.find?_some (p := fun (f : Flight) => decide (f.place = some p)) h)
  rw [R.inj (R.mem.mpr (List.mem_filter.mp hk).1) hf hkp hp]
theorem Rel.holder_none (R : Rel sl fl g s) {p : Nat} (h : heldP fl p = false) : holder s p = none := by
 rw [R.held] at h
 have : isOpen s p = true := by simpa using h
 unfold isOpen at this
 simpa using this
theorem twice_nodup : ∀ l : List Int, noneTwice l = true ↔ l.Nodup
 | [] => ⟨fun _ => List.nodup_nil, fun _ => rfl⟩
 | x :: r => by
  unfold noneTwice
  rw [Bool.and_eq_true, twice_nodup r, List.nodup_cons]
  constructor
  ·rintro ⟨h1, h2⟩
   exact ⟨fun z => by simp [z] at h1, h2⟩
  ·rintro ⟨h1, h2⟩
   exact ⟨by simp [h1], h2⟩
theorem perm_of_sub : ∀ {l m : List Int}, l.Nodup -> (∀ x ∈ l, x ∈ m) -> l.length = m.length -> l.Perm m
 | [], m, _, _, h => by
  have : m = [] := List.eq_nil_of_length_eq_zero (by simpa using h.symm)
  rw [this]
 | a :: l, m, hn, hs, hl => by
  obtain ⟨h1, h2⟩ := List.nodup_cons.mp hn
  have ha : a ∈ m := hs a List.mem_cons_self
  have p := List.perm_cons_erase ha
  refine List.Perm.trans ?_ p.symm
  refine (perm_of_sub h2 (fun x hx => ?_) ?_).cons a
  ·have hx' : x ∈ a :: m.erase a := p.mem_iff.mp (hs x (List.mem_cons_of_mem _ hx))
   rcases List.mem_cons.mp hx' with z | z
   ·exact (h1 (z ▸ hx)).elim
   ·exact z
  ·have := p.length_eq
   simp only [List.length_cons] at this hl
   omega
theorem live_ids (s : State) (w : Wf s) : ((Vbahas.live s).map (·.id)).Pairwise (· < ·) := by
 rw [List.pairwise_map]
 exact w.ids.filter _
theorem allLive_perm (w : Wf s) (l : List Int) : allLive s l = true ↔ l.Perm ((Vbahas.live s).map (·.id)) := by
 unfold allLive
 rw [Bool.and_eq_true, Bool.and_eq_true, twice_nodup, decide_eq_true_eq, List.all_eq_true]
 constructor
 ·rintro ⟨h1, h2, h3⟩
  refine perm_of_sub h1 (fun x hx => ?_) (by rw [List.length_map]; exact h2)
  obtain ⟨f, hf, e⟩ := List.any_eq_true.mp (h3 x hx)
  exact List.mem_map.mpr ⟨f, hf, of_decide_eq_true e⟩
 ·intro p
  refine ⟨p.nodup_iff.mpr ((live_ids s w).imp fun h e => by omega), by rw [p.length_eq, List.length_map], fun x hx => ?_⟩
  obtain ⟨f, hf, e⟩ := List.mem_map.mp (p.mem_iff.mp hx)
  exact List.any_eq_true.mpr ⟨f, hf, decide_eq_true e⟩
theorem sorted_eq : ∀ {l m : List Int}, l.Perm m -> l.Pairwise (· <= ·) -> m.Pairwise (· <= ·) -> l = m := fun p h1 h2 => p.eq_of_pairwise (fun a b _ _ h h' => by omega) h1 h2
theorem Rel.queue_ok (R : Rel sl fl g s) {l a b : List Int} (ha : a.Perm l) (ha' : a.Pairwise (· <= ·)) (hb : b.Perm ((fl.filter fun f => !f.gone).map (·.id))) (hb' : b.Pairwise (· <= ·)) : a = b ↔ allLive s l = true := by
 rw [allLive_perm R.wf]
 have hp : b.Perm ((Vbahas.live s).map (·.id)) := hb.trans (R.live.map _)
 constructor
 ·intro e
  subst e
  exact ha.symm.trans hp
 ·intro p
  exact sorted_eq (ha.trans (p.trans hp.symm)) ha' hb'
theorem Rel.numbers (R : Rel sl fl g s) {b : List Int} (hb : b.Perm ((fl.filter fun f => !f.gone).map (·.id))) (hb' : b.Pairwise (· <= ·)) : b = (Vbahas.live s).map (·.id) :=
 sorted_eq (hb.trans (R.live.map _)) hb' ((live_ids s R.wf).imp fun h => by omega)
theorem flightsOf_map (w : Wf s) : ∀ {l : List Int} {fs : List Flight}, fs.map (·.id) = l -> (∀ f ∈ fs, f ∈ s.flights) -> flightsOf s l = some fs
 | [], fs, h, _ => by
  have : fs = [] := List.map_eq_nil_iff.mp h
  rw [this]; rfl
 | i :: l, [], h, _ => by cases h
 | i :: l, f :: fs, h, hm => by
  rw [List.map_cons] at h
  injection h with h1 h2
  unfold flightsOf
  rw [<- h1, w.flightOf (hm f List.mem_cons_self), flightsOf_map w h2 fun f hf => hm f (List.mem_cons_of_mem _ hf)]
end
end SH
end
section
namespace SH
open Vbahas
def term (s : State) (c : Int) (f : Flight) : Int := if f.gone = false /\ f.carrier = c then f.weight * delayOf s f else 0
theorem sum_filter (p q : Flight -> Bool) (v : Flight -> Int) : ∀ l : List Flight, (((l.filter p).filter q).map v).sum = (l.map fun f => if p f = true /\ q f = true then v f else 0).sum
 | [] => rfl
 | f :: l => by
  rw [List.map_cons, List.sum_cons, <- sum_filter p q v l]
  by_cases hp : p f = true
  ·rw [List.filter_cons_of_pos hp]
   by_cases hq : q f = true
   ·rw [List.filter_cons_of_pos hq, List.map_cons, List.sum_cons, if_pos ⟨hp, hq⟩]
   ·rw [List.filter_cons_of_neg hq, if_neg (fun z => hq z.2)]; omega
  ·rw [List.filter_cons_of_neg hp, if_neg (fun z => hp z.1)]; omega
theorem cost_terms (s : State) (c : Int) : cost s c = (s.flights.map (term s c)).sum := by
 unfold cost live
 rw [sum_eq, sum_filter]
 congr 1
 apply List.map_congr_left
 intro f _
 unfold term
 by_cases h : f.gone = false /\ f.carrier = c
 ·rw [if_pos h, if_pos ⟨by rw [h.1]; rfl, by rw [h.2]; simp⟩]
 ·rw [if_neg h, if_neg]
  rintro ⟨h1, h2⟩
  exact h ⟨by simpa using h1, of_decide_eq_true h2⟩
theorem sum_put {v : Flight -> Int} {f f' : Flight} (hi : f'.id = f.id) : ∀ {l : List Flight}, (l.map (·.id)).Nodup -> f ∈ l -> ((l.map (putF f')).map v).sum = (l.map v).sum - v f + v f'
 | [], _, h => (List.not_mem_nil h).elim
 | g :: l, hn, h => by
  obtain ⟨h1, h2⟩ := List.nodup_cons.mp (show (g.id :: l.map (·.id)).Nodup from hn)
  rw [List.map_cons, List.map_cons, List.sum_cons, List.map_cons, List.sum_cons]
  by_cases e : g.id = f.id
  ·have hgf : g = f := by
    rcases List.mem_cons.mp h with z | z
    ·exact z.symm
    ·exact (h1 (List.mem_map.mpr ⟨f, z, e.symm⟩)).elim
   subst hgf
   have e1 : putF f' g = f' := if_pos hi.symm
   have e2 : l.map (putF f') = l := by
    refine (List.map_congr_left fun x hx => ?_).trans (List.map_id l)
    show putF f' x = x
    exact if_neg fun z => h1 (List.mem_map.mpr ⟨x, hx, by rw [z, hi]⟩)
   rw [e1, e2]; omega
  ·have e1 : putF f' g = g := if_neg (by rw [hi]; exact e)
   have hf : f ∈ l := by
    rcases List.mem_cons.mp h with z | z
    ·exact (e (by rw [z])).elim
    ·exact z
   rw [e1, sum_put hi h2 hf]; omega
theorem delay_owner (s : State) (p : Nat) (o : Option Int) (f : Flight) : delayOf (setOwner s p o) f = delayOf s f := by
 unfold delayOf
 cases f.place with
 | none => rfl
 | some q =>
  show timeOf (setOwner s p o) q - _ = timeOf s q - _
  rw [timeOf_eq, timeOf_eq]
  show tOf (ownAt s.slots p o) q - _ = _
  rw [ownAt_t]
theorem cost_owner (s : State) (p : Nat) (o : Option Int) (c : Int) : cost (setOwner s p o) c = cost s c := by
 rw [cost_terms, cost_terms]
 congr 1
 apply List.map_congr_left
 intro f _
 unfold term
 rw [delay_owner]
theorem cost_put {s : State} (hn : (s.flights.map (·.id)).Nodup) {f f' : Flight} (hf : f ∈ s.flights) (hi : f'.id = f.id) (c : Int) : cost (setFlight s f') c = cost s c - term s c f + term s c f' := by
 rw [cost_terms, cost_terms]
 have e : term (setFlight s f') c = term s c := by
  funext g
  rfl
 rw [e]
 exact sum_put hi hn hf
theorem time_exch (s : State) (f g : Flight) (p : Nat) : timeOf (exchanged s f g) p = timeOf s p := exchanged_t s f g p
theorem cost_exch {s : State} (w : Wf s) {f g : Flight} (hf : f ∈ s.flights) (hg : g ∈ s.flights) (hne : f.id ≠ g.id) {p q : Nat} (hp : f.place = some p) (hq : g.place = some q) (hc : f.carrier ≠ g.carrier) :
  cost (exchanged s f g) f.carrier = cost s f.carrier - f.weight * (timeOf s p - timeOf s q) /\ cost (exchanged s f g) g.carrier = cost s g.carrier - g.weight * (timeOf s q - timeOf s p) := by
 have fng : f.gone = false := by
  cases e : f.gone with
  | false => rfl
  | true => rw [(w.fo f hf).gone e] at hp; cases hp
 have gng : g.gone = false := by
  cases e : g.gone with
  | false => rfl
  | true => rw [(w.fo g hg).gone e] at hq; cases hq
 have hn := ids_nodup w.ids
 have e1 : ∀ c, cost (exchanged s f g) c = cost s c - term s c f + term s c { f with place := some q } - term s c g + term s c { g with place := some p } := fun c => by
  unfold exchanged
  rw [cost_owner, cost_owner, hp, hq]
  show cost (setFlight (setFlight s { f with place := some q }) { g with place := some p }) c = _
  have hn' : ((setFlight s { f with place := some q }).flights.map (·.id)).Nodup := by
   show ((s.flights.map (putF { f with place := some q })).map (·.id)).Nodup
   rw [List.map_map]
   have : ((·.id) ∘ putF { f with place := some q } : Flight -> Int) = (·.id) := funext fun x => putF_id
   rw [this]; exact hn
  have hg' : g ∈ (setFlight s { f with place := some q }).flights := List.mem_map.mpr ⟨g, hg, if_neg fun z => hne z.symm⟩
  have e := cost_put (s := setFlight s { f with place := some q }) hn' hg' (f' := { g with place := some p }) rfl c
  have e2 := cost_put hn hf (f' := { f with place := some q }) rfl c
  have e3 : term (setFlight s { f with place := some q }) c = term s c := rfl
  rw [e3] at e
  rw [e, e2]
 have tf : ∀ x, term s f.carrier { f with place := some x } = f.weight * (timeOf s x - f.sched) := fun x => if_pos ⟨fng, rfl⟩
 have tg : ∀ x, term s g.carrier { g with place := some x } = g.weight * (timeOf s x - g.sched) := fun x => if_pos ⟨gng, rfl⟩
 have tf0 : term s f.carrier f = f.weight * (timeOf s p - f.sched) := by
  unfold term
  rw [if_pos ⟨fng, rfl⟩]
  unfold delayOf
  rw [hp]
 have tg0 : term s g.carrier g = g.weight * (timeOf s q - g.sched) := by
  unfold term
  rw [if_pos ⟨gng, rfl⟩]
  unfold delayOf
  rw [hq]
 have z1 : ∀ x, term s f.carrier { g with place := x } = 0 := fun x => if_neg fun z => hc z.2.symm
 have z1' : term s f.carrier g = 0 := if_neg fun z => hc z.2.symm
 have z2 : ∀ x, term s g.carrier { f with place := x } = 0 := fun x => if_neg fun z => hc z.2
 have z2' : term s g.carrier f = 0 := if_neg fun z => hc z.2
 constructor
 ·rw [e1, tf q, tf0, z1', z1 (some p), Int.mul_sub, Int.mul_sub, Int.mul_sub]; omega
 ·rw [e1, tg p, tg0, z2', z2 (some q), Int.mul_sub, Int.mul_sub, Int.mul_sub]; omega
theorem cost_trade {s : State} (w : Wf s) {f g h k : Flight} (f1 : f ∈ s.flights) (g1 : g ∈ s.flights) (h1 : h ∈ s.flights) (k1 : k ∈ s.flights) {p q r u : Nat} (hp : f.place = some p) (hq : g.place = some q) (hr : h.place = some r) (hu : k.place = some u)
  (n1 : f.carrier = g.carrier) (n2 : h.carrier = k.carrier) (n3 : f.carrier ≠ h.carrier) (n4 : f.id ≠ g.id) (n5 : h.id ≠ k.id) (x1 : f.ready <= timeOf s r) (x2 : h.ready <= timeOf s p) :
  cost (exchanged (exchanged s f h) g k) f.carrier = cost s f.carrier - (f.weight * (timeOf s p - timeOf s r) + g.weight * (timeOf s q - timeOf s u)) /\
  cost (exchanged (exchanged s f h) g k) h.carrier = cost s h.carrier - (h.weight * (timeOf s r - timeOf s p) + k.weight * (timeOf s u - timeOf s q)) := by
 have fh : f.id ≠ h.id := fun e => n3 (by rw [w.id_inj f1 h1 e])
 have gf : g.id ≠ f.id := fun e => n4 e.symm
 have gh : g.id ≠ h.id := fun e => n3 (by rw [<- w.id_inj g1 h1 e, n1])
 have kf : k.id ≠ f.id := fun e => n3 (by rw [n2, <- w.id_inj k1 f1 e])
 have kh : k.id ≠ h.id := fun e => n5 e.symm
 have gk : g.id ≠ k.id := fun e => n3 (by rw [n1, n2, w.id_inj g1 k1 e])
 have w1 := exchanged_wf w f1 h1 fh hp hr x1 x2
 obtain ⟨a1, a2⟩ := cost_exch w f1 h1 fh hp hr n3
 obtain ⟨b1, b2⟩ := cost_exch w1 (exchanged_mem g1 gf gh) (exchanged_mem k1 kf kh) gk hq hu (by rw [<- n1, <- n2]; exact n3)
 rw [time_exch, time_exch, <- n1, a1] at b1
 rw [time_exch, time_exch, <- n2, a2] at b2
 constructor
 ·rw [b1]; omega
 ·rw [b2]; omega
end SH
end
section
namespace L2
open PySem PySem.Spec PyProof.Rows
section
variable {X : Cx} {pins : List (Addr × Obj)} {σ : St} {H : Hp} {s : Shared}
theorem Inv.track {a : Addr} {ho : HO} (I : Inv X pins σ H s) (hn : H a = none) (hL : a ≠ X.env.locals) (hy : X.s_0.heap.objs.size <= a) (hc : ∀ x c, X.env.cells.lookup x = some c -> c ≠ a) (hp : ∀ p ∈ X.pn ++ pins, p.1 ≠ a)
  (new : ObjOk X.prog X.w (upd H a ho) s.heap a ho) : Inv X pins σ (upd H a ho) s := by
 have ne : ∀ b o, H b = some o -> b ≠ a := fun b o e z => by rw [z, hn] at e; cases e
 refine ⟨I.ok, I.os, I.bare, ⟨I.base.keep, I.base.slot, fun b o e n hx => ?_, I.base.there, fun b xs e => ?_, fun b o x e => ?_, fun b ps e => ?_⟩, I.loc, I.cell, ?_, fun x c e => ?_, fun p hp' => ?_, fun b o e => ?_, I.len⟩
 ·rw [uN (Nat.ne_of_lt (Nat.lt_of_lt_of_le (Heap.lt_size e) hy))]; exact I.base.free b o e n hx
 ·have q := I.base.tups b xs e
  rw [uN (ne b _ q)]; exact q
 ·have q := I.base.frzs b o x e
  rw [uN (ne b _ q)]; exact q
 ·obtain ⟨m, q⟩ := I.base.tbls b ps e
  exact ⟨m, by rw [uN (ne b _ q)]; exact q⟩
 ·rw [uN (Ne.symm hL)]; exact I.free
 ·rw [uN (hc x c e)]; exact I.freeC x c e
 ·obtain ⟨e, n, r⟩ := I.pin p hp'
  exact ⟨e, by rw [uN (hp p hp')]; exact n, r⟩
 ·by_cases hb : b = a
  ·subst hb; rw [uS] at e; cases e; exact new
  ·rw [uN hb] at e
   exact (I.hok b o e).stay (fun c v _ q => q) (fun c q => by rw [uN (ne c _ q)]; exact q) fun c xs q => by rw [uN (ne c _ q)]; exact q
structure Ours (X : Cx) (pins : List (Addr × Obj)) (b : Addr) : Prop where
 loc : b ≠ X.env.locals
 fs : b ∉ X.fs
 yg : X.s_0.heap.objs.size <= b
 cel : ∀ x c, X.env.cells.lookup x = some c -> c ≠ b
 pin : ∀ p ∈ X.pn ++ pins, p.1 ≠ b
theorem Inv.ours (I : Inv X pins σ H s) {b : Addr} (hb : s.heap.objs.size <= b) : Ours X pins b := by
 obtain ⟨_, h1, h2, _, h4, h5⟩ := I.fpOk hb (I.hok.fresh hb)
 exact ⟨h1, h2, Nat.le_trans I.sz hb, h4, h5⟩
theorem Inv.changed {it : Addr} {h' : Heap} {t' : Nat} (I : Inv X pins σ H s) (o : Ours X pins it) (hn : H it = none) (k : ∀ b o, b ≠ it -> s.heap.get? b = some o -> h'.get? b = some o) : Inv X pins σ H { s with heap := h', toks := t' } :=
 I.turned k hn o.loc (.inr o.yg) o.cel o.pin
theorem Inv.pin2 {a k : Addr} {oa ok : Obj} (I : Inv X pins σ H s) (Oa : Ours X pins a) (Ok : Ours X pins k) (ea : s.heap.get? a = some oa) (ek : s.heap.get? k = some ok) (na : H a = none) (nk : H k = none) (da : ∀ v, oa.data ≠ .cell v) (dk : ∀ v, ok.data ≠ .cell v) :
  Inv X (pins ++ [(a, oa), (k, ok)]) σ H s := I.pins_of fun p hp => by
 rcases List.mem_append.mp hp with hp | hp
 ·exact I.pin p (List.mem_append_right _ hp)
 ·rcases List.mem_cons.mp hp with rfl | hp
  ·exact ⟨ea, na, Oa.loc, Oa.fs, da⟩
  ·rw [List.mem_singleton.mp hp]
   exact ⟨ek, nk, Ok.loc, Ok.fs, dk⟩
theorem Inv.unpin2 {a k : Addr} {oa ok : Obj} (I : Inv X (pins ++ [(a, oa), (k, ok)]) σ H s) : Inv X pins σ H s /\ (s.heap.get? a = some oa /\ H a = none) /\ (s.heap.get? k = some ok /\ H k = none) := by
 have p1 := I.pin (a, oa) (by simp)
 have p2 := I.pin (k, ok) (by simp)
 exact ⟨I.pins_of fun p hp => I.pin p (by rcases List.mem_append.mp (List.mem_append_right X.pn hp) with h | h; exact List.mem_append_left _ h; exact List.mem_append_right _ (List.mem_append_left _ h)), ⟨p1.1, p1.2.1⟩, p2.1, p2.2.1⟩
end
section
variable {X : Cx} {pins : List (Addr × Obj)} {σ : St} {H : Hp} {s : Shared}
theorem run_fnA {k : Nat} {f : Addr} {fd : FuncData} {ps : List Str} {sp : Sp} {A' : Around} {E' : Value -> Shared -> Prop} {Q : VK} {us : List Value} {vs : List V} (F : FnOk X.prog X.w X.K X.mg X.base CX0 k f fd ps sp) (hA : A'.frames = X.A.frames) (hr : Room k A') (hb : Binds X.K fd ps [])
  (I : Inv X pins σ H s) (r : Vals vs us) (h : sp vs H Q E0) : wpAny (model X.prog X.w) A' (call (.ref f) us) (EP X pins σ Q) E' s := by
 have hl : (us ++ []).length = ps.length := by rw [List.append_nil, <- r.length]; exact F.len _ _ _ _ h
 have e0 := I.env0
 have bt := hb s us I.kIn hl
 rw [List.append_nil] at bt
 refine wpAny_call (codeAny_mono (F.run A' X.stack s H ⟨us, []⟩ us vs Q E0 hr ⟨hA.trans e0.frames, e0.mod, e0.bs, e0.bsz, e0.funs, e0.frf, e0.hok, e0.bare⟩ bt r h) fun r s' hq => ?_)
 cases r with
 | error e => exact False.elim hq
 | ok fl =>
  cases fl with
  | ret u => exact I.after hq
  | next => exact False.elim hq
  | brk => exact False.elim hq
  | cont => exact False.elim hq
end
theorem perm_lift {α β : Type} {f : α -> β} {l m' : List β} (h : l.Perm m') : ∀ m : List α, m.map f = m' -> ∃ q : List α, q.Perm m /\ q.map f = l := by
 induction h with
 | nil => intro m e; exact ⟨[], by rw [List.map_eq_nil_iff.mp e], rfl⟩
 | @cons x l m' _ ih =>
  intro m e
  cases m with
  | nil => simp at e
  | cons y r =>
   injection e with e1 e2
   obtain ⟨q, p, eq⟩ := ih r e2
   exact ⟨y :: q, p.cons y, by rw [List.map_cons, e1, eq]⟩
 | @swap x y l =>
  intro m e
  match m, e with
  | [], e => simp at e
  | [_], e => simp at e
  | u :: v :: r, e =>
   injection e with e1 e2
   injection e2 with e2 e3
   exact ⟨v :: u :: r, List.Perm.swap u v r, by rw [List.map_cons, List.map_cons, e1, e2, e3]⟩
 | trans _ _ ih1 ih2 =>
  intro m e
  obtain ⟨q, p, eq⟩ := ih2 m e
  obtain ⟨q', p', eq'⟩ := ih1 q eq
  exact ⟨q', p'.trans p, eq'⟩
def shI : Nat -> Bool := fun _ => false
theorem vals_ints_items : ∀ {l : List Int} {us : List Value}, Vals (l.map V.int) us -> ∀ i, tupItems shI i us = some (l.map Sum.inl)
 | [], _, .nil, _ => rfl
 | n :: l, _, .cons r t, i => by
  obtain ⟨tk, rfl⟩ := r
  have e := vals_ints_items t (i + 1)
  show (if shI i = true then none else (tupItems shI (i + 1) _).map (Sum.inl n :: ·)) = _
  rw [if_neg (show ¬ (shI i = true) from Bool.false_ne_true), e]
  rfl
theorem lex_rowLess : ∀ a b : List Int, lexLt itemOrd (a.map Sum.inl) (b.map Sum.inl) = Vbahas.rowLess a b
 | [], [] => rfl
 | [], _ :: _ => rfl
 | _ :: _, [] => rfl
 | x :: r, y :: t => by
  show lexLt itemOrd (Sum.inl x :: r.map Sum.inl) (Sum.inl y :: t.map Sum.inl) = _
  rw [lex_cons, lex_rowLess r t]
  show (itemLt (Sum.inl x) (Sum.inl y) || (!itemLt (Sum.inl y) (Sum.inl x) && Vbahas.rowLess r t)) = (decide (x < y) || (decide (x = y) && Vbahas.rowLess r t))
  show (decide (x < y) || (!decide (y < x) && Vbahas.rowLess r t)) = (decide (x < y) || (decide (x = y) && Vbahas.rowLess r t))
  by_cases h1 : x < y
  ·simp [h1]
  ·by_cases h2 : y < x
   ·have : ¬ x = y := by omega
    simp [h1, h2, this]
   ·have : x = y := by omega
    simp [this]
def KeyIs (H : Hp) (k : Value) (l : List Int) : Prop := ∃ t, k = .ref t /\ H t = some (.tup (l.map V.int))
theorem KeyIs.same {H H' : Hp} {k : Value} {l : List Int} (h : KeyIs H k l) (e : Same H H') : KeyIs H' k l := let ⟨t, a, b⟩ := h; ⟨t, a, e _ _ b⟩
section
variable {X : Cx} {pins : List (Addr × Obj)} {σ : St} {H : Hp} {s : Shared}
theorem KeyIs.tup (I : Inv X pins σ H s) {k : Value} {l : List Int} (h : KeyIs H k l) : ∃ (a : Addr) (o : Obj) (us : List Value) (n : Nat), k = .ref a /\ s.heap.get? a = some o /\ o.cls = .type "tuple" /\ o.data = .seq us.toArray n /\ Vals (l.map V.int) us := by
 obtain ⟨t, rfl, ht⟩ := h
 obtain ⟨_, us, r, o, e, c, n, d⟩ := I.hok t _ ht
 exact ⟨t, o, us, n, rfl, e, c, d, r⟩
theorem KeyIs.key (I : Inv X pins σ H s) {k : Value} {l : List Int} (h : KeyIs H k l) : G.tupKeyC s.heap shI k = some (l.map Sum.inl) := by
 obtain ⟨a, o, us, n, rfl, e, c, d, r⟩ := h.tup I
 unfold G.tupKeyC
 rw [if_pos (by simp [G.isTupObj, e, c])]
 simp only [tupKey, e, d]
 have := vals_ints_items r 0
 simpa using this
theorem keys_tups (I : Inv X pins σ H s) : ∀ {ks : List Value} {ls : List (List Int)}, Paired (KeyIs H) ks ls -> (∀ l ∈ ls, l ≠ []) -> ∃ fs, TupsOf s.heap shI ks fs
 | _, _, .nil, _ => ⟨[], .nil⟩
 | k :: ks, l :: ls, .cons h t, hne => by
  obtain ⟨fs, r⟩ := keys_tups I t fun l hl => hne l (List.mem_cons_of_mem _ hl)
  obtain ⟨a, o, us, n, rfl, e, c, d, rv⟩ := h.tup I
  match l, rv, hne l List.mem_cons_self with
  | [], _, z => exact (z rfl).elim
  | i :: l, rv, _ =>
   cases rv with
   | cons ri rt =>
    obtain ⟨tk, rfl⟩ := ri
    exact ⟨_ :: fs, .cons ⟨a, o, _, n, rfl, e, c, d, by simp, fun _ => ⟨i, tk, rfl⟩, fun z => (by cases z)⟩ r⟩
theorem paired_same {H H' : Hp} (e : Same H H') : ∀ {ks : List Value} {ls : List (List Int)}, Paired (KeyIs H) ks ls -> Paired (KeyIs H') ks ls
 | _, _, .nil => .nil
 | _, _, .cons h t => .cons (h.same e) (paired_same e t)
theorem paired_snoc {α β : Type} {R : α -> β -> Prop} {a : α} {b : β} (h : R a b) : ∀ {l : List α} {m : List β}, Paired R l m -> Paired R (l ++ [a]) (m ++ [b])
 | _, _, .nil => .cons h .nil
 | _, _, .cons r t => .cons r (paired_snoc h t)
end
end L2
end
section
namespace L2
open PySem PySem.Spec PyProof.Rows
theorem list_not_cell {xs : Array Value} {n : Nat} : ∀ v, (seqObj "list" xs n).data ≠ .cell v := fun v z => nomatch z
theorem paired_getR {α β : Type} {R : α -> β -> Prop} : ∀ {l : List α} {m : List β}, Paired R l m -> ∀ {i : Nat} {b : β}, m[i]? = some b -> ∃ a, l[i]? = some a /\ R a b
 | _, _, .nil, i, b, h => by simp at h
 | a :: l, b' :: m, .cons r t, 0, b, h => by
  have e : b' = b := Option.some.inj h
  subst e
  exact ⟨a, rfl, r⟩
 | a :: l, b' :: m, .cons r t, i + 1, b, h => paired_getR t (i := i) (b := b) h
section
variable {X : Cx} {pins : List (Addr × Obj)} {σ : St} {H : Hp} {s : Shared} {A' : Around} {E : Value -> Shared -> Prop} {P : PySem.Fin -> Shared -> Prop} {kf : V -> List Int}
theorem ksort_tail {a kS : Addr} {e1 e : Nat} {keys : Array Value} {vs : List Value} {xs : List V} {st : SortSt} (I : Inv X (pins ++ [(a, seqObj "list" #[] e1), (kS, seqObj "list" keys e)]) σ H s) (Oa : Ours X pins a) (Ok : Ours X pins kS) (hak : a ≠ kS)
  (rv : Vals xs vs) (hk : Paired (KeyIs H) keys.toList (xs.map kf)) (hZ : vs.length <= 1000) (hp : (arrOf st).Perm (keys.zip vs.toArray)) (hs : SortedToK (G.tupKindC s.heap shI) (arrOf st) (arrOf st).size) (hfl : failedOf st = none)
  (h : ∀ s' ys, ys.Perm xs -> ys.Pairwise (fun a b => Vbahas.rowLess (kf b) (kf a) = false) -> Inv X pins σ (upd H a (.lst ys)) s' -> P (.done (.ret .none)) s') :
  wpAny (model X.prog X.w) A' (ksk_tail a false e1 (.ref kS) st) P E s := by
 obtain ⟨I0, ⟨ea, na⟩, ⟨ek, nk⟩⟩ := I.unpin2
 have hlen := rv.length
 have hkl : keys.size = xs.length := by
  have := Paired.length hk
  rw [Array.length_toList, List.length_map] at this
  exact this
 have hkl' : keys.toList.length = xs.length := by rw [Array.length_toList]; exact hkl
 have hpl : (arrOf st).toList.Perm (keys.toList.zip vs) := by rw [<- ksk_zip]; exact Array.perm_iff_toList_perm.mp hp
 have ez : ((keys.toList.zip vs).zip xs).map (·.1) = keys.toList.zip vs := List.map_fst_zip (by rw [List.length_zip]; omega)
 obtain ⟨qs, qp, qe⟩ := perm_lift hpl _ ez
 have trip : ∀ q ∈ (keys.toList.zip vs).zip xs, KeyIs H q.1.1 (kf q.2) /\ RelV q.2 q.1.2 := fun q hq => by
  obtain ⟨i, hi⟩ := List.getElem?_of_mem hq
  rw [List.getElem?_zip_eq_some, List.getElem?_zip_eq_some] at hi
  obtain ⟨⟨h1, h2⟩, h3⟩ := hi
  obtain ⟨k', hk', r'⟩ := paired_getR hk (i := i) (b := kf q.2) (by rw [List.getElem?_map, h3]; rfl)
  rw [h1] at hk'
  obtain ⟨u, hu, ru⟩ := rv.get h3
  rw [h2] at hu
  exact ⟨by rw [Option.some.inj hk']; exact r', by rw [Option.some.inj hu]; exact ru⟩
 have tripq : ∀ q ∈ qs, KeyIs H q.1.1 (kf q.2) /\ RelV q.2 q.1.2 := fun q hq => trip q (qp.mem_iff.mp hq)
 have py : (qs.map (·.2)).Perm xs := by
  have := qp.map (·.2)
  rw [List.map_snd_zip (by rw [List.length_zip]; omega)] at this
  exact this
 have ey : ((arrOf st).map (·.2)).toList = qs.map (·.1.2) := by
  rw [Array.toList_map, <- qe, List.map_map]; rfl
 have vy : Vals (qs.map (·.2)) (qs.map (·.1.2)) := by
  have : ∀ l : List ((Value × Value) × V), (∀ q ∈ l, RelV q.2 q.1.2) -> Vals (l.map (·.2)) (l.map (·.1.2)) := by
   intro l
   induction l with
   | nil => intro _; exact .nil
   | cons q r ih => intro h; exact .cons (h q List.mem_cons_self) (ih fun z hz => h z (List.mem_cons_of_mem _ hz))
  exact this qs fun q hq => (tripq q hq).2
 have pw : (qs.map (·.2)).Pairwise (fun a b => Vbahas.rowLess (kf b) (kf a) = false) := by
  rw [List.pairwise_map, List.pairwise_iff_getElem]
  intro i j hi hj hij
  have hsz : (arrOf st).size = qs.length := by rw [<- Array.length_toList, <- qe, List.length_map]
  have q := hs i j (Nat.le_of_lt hij) (by rw [hsz]; exact hj)
  have gi : (arrOf st)[i]? = some qs[i].1 := by rw [<- Array.getElem?_toList, <- qe, List.getElem?_map, List.getElem?_eq_getElem hi]; rfl
  have gj : (arrOf st)[j]? = some qs[j].1 := by rw [<- Array.getElem?_toList, <- qe, List.getElem?_map, List.getElem?_eq_getElem hj]; rfl
  rw [srt_KK_some gi ((tripq _ (List.getElem_mem hi)).1.key I0), srt_KK_some gj ((tripq _ (List.getElem_mem hj)).1.key I0)] at q
  have q : lexLt itemOrd ((kf qs[j].2).map Sum.inl) ((kf qs[i].2).map Sum.inl) = false := q
  rw [lex_rowLess] at q
  exact q
 have s1 := Heap.SameBut.update s.heap kS (Obj.mapSeq fun _ => (#[] : Array Value))
 have ea1 : (s.heap.update kS (Obj.mapSeq fun _ => (#[] : Array Value))).get? a = some (seqObj "list" #[] e1) := (s1.2 a hak).trans ea
 have s2 := Heap.SameBut.update (s.heap.update kS (Obj.mapSeq fun _ => (#[] : Array Value))) a (Obj.mapSeq fun _ => (arrOf st).map (·.2))
 obtain ⟨c2, hc2⟩ : ∃ c2, ((s.heap.update kS (Obj.mapSeq fun _ => (#[] : Array Value))).update a (Obj.mapSeq fun _ => (arrOf st).map (·.2))).get? a = some (seqObj "list" ((arrOf st).map (·.2)) c2) := ⟨_, get?_update_seq ea1 fun _ => (arrOf st).map (·.2)⟩
 have hout : ((arrOf st).map (·.2)).size <= 1000 := by
  rw [<- Array.length_toList, ey, List.length_map]
  have := py.length_eq
  rw [List.length_map] at this
  omega
 have I1 : Inv X pins σ H { s with heap := s.heap.update kS (Obj.mapSeq fun _ => (#[] : Array Value)) } := I0.changed (t' := s.toks) Ok nk fun b o hb q => (s1.2 b hb).trans q
 have I2 : Inv X pins σ H { s with heap := (s.heap.update kS (Obj.mapSeq fun _ => (#[] : Array Value))).update a (Obj.mapSeq fun _ => (arrOf st).map (·.2)) } := I1.changed (t' := s.toks) Oa na fun b o hb q => (s2.2 b hb).trans q
 unfold ksk_tail
 try dsimp only
 refine wpAny_bind (listUpdate_at ek rfl ?_ (by rw [hkl, sizeLine_eq]; omega) (Nat.zero_le _))
 refine wpAny_bind (wpAny_letGo ?_)
 refine wpAny_bind (seqEpoch_at ea1 rfl ?_)
 simp only [Bool.false_eq_true, if_false]
 refine wpAny_bind (listUpdate_at ea1 rfl ?_ (Nat.zero_le _) (by rw [sizeLine_eq]; omega))
 rw [hfl]
 simp only [bne_self_eq_false, Bool.false_eq_true, if_false]
 refine wpAny_pure (h _ (qs.map (·.2)) py pw (I2.track na Oa.loc Oa.yg Oa.cel Oa.pin ⟨?_, qs.map (·.1.2), c2, vy, ?_⟩))
 ·have := vy.length
  rw [List.length_map, List.length_map] at *
  have := py.length_eq
  rw [List.length_map] at this
  rw [sizeLine_eq]; omega
 ·show _ = some (seqObj "list" (qs.map (·.1.2)).toArray c2)
  rw [<- ey, Array.toArray_toList]
  exact hc2
theorem ksort_end {a kS : Addr} {e1 e : Nat} {keys : Array Value} {vs : List Value} {xs : List V} (I : Inv X (pins ++ [(a, seqObj "list" #[] e1), (kS, seqObj "list" keys e)]) σ H s) (Oa : Ours X pins a) (Ok : Ours X pins kS) (hak : a ≠ kS)
  (rv : Vals xs vs) (hk : Paired (KeyIs H) keys.toList (xs.map kf)) (hne : ∀ x ∈ xs, kf x ≠ []) (hZ : vs.length <= 1000)
  (h : ∀ s' ys, ys.Perm xs -> ys.Pairwise (fun a b => Vbahas.rowLess (kf b) (kf a) = false) -> Inv X pins σ (upd H a (.lst ys)) s' -> P (.done (.ret .none)) s') :
  wpAny (model X.prog X.w) A' (ksk_end a false vs.toArray e1 (.ref kS) keys) P E s := by
 have hlen := rv.length
 have hkl : keys.size = vs.length := by
  have := Paired.length hk
  rw [Array.length_toList, List.length_map] at this
  omega
 have hzs : (keys.zip vs.toArray).size = vs.length := by rw [Array.size_zip, hkl, List.size_toArray, Nat.min_self]
 unfold ksk_end
 try dsimp only
 simp only [Bool.false_eq_true, if_false]
 by_cases h2 : vs.toArray.size < 2
 ·rw [if_pos h2, if_pos h2]
  refine wpAny_bind (wpAny_pure ?_)
  rw [StateT.run_pure]
  refine wpAny_bind (wpAny_pure ?_)
  try dsimp only
  refine ksort_tail (st := SortSt.mk' general' (keys.zip vs.toArray) #[] 7 none) I Oa Ok hak rv hk hZ (Array.Perm.refl _) ?_ rfl h
  intro i j hij hj
  have hj2 : j < (keys.zip vs.toArray).size := hj
  rw [hzs] at hj2
  rw [List.size_toArray] at h2
  have : i = j := by omega
  subst this
  exact KeyOrd.kle_refl _
 ·rw [if_neg h2, if_neg h2]
  rw [List.size_toArray] at h2
  obtain ⟨fs, ht⟩ := keys_tups I hk fun l hl => by
   obtain ⟨x, hx, rfl⟩ := List.mem_map.mp hl
   exact hne x hx
  have hfl := G.TupsOf.length ht
  have hks : keys.toList.toArray = keys := Array.toArray_toList
  have hkind : wpAny (model X.prog X.w) A' (keyKind' keys.toList.toArray) (fun kd s' => kd = tuples' true /\ s' = s) E s := tup_kind (by rw [hfl, Array.length_toList]; omega) ht ⟨rfl, rfl⟩
  rw [hks] at hkind
  refine wpAny_bind (thn hkind fun kd s' ⟨e1', e2'⟩ => ?_)
  subst e1' e2'
  have hK : KeysOf (G.tupKindC s'.heap shI) (keys.zip vs.toArray) := by
   intro p hp
   rw [ksk_zip] at hp
   obtain ⟨i, hi⟩ := List.getElem?_of_mem hp
   rw [List.getElem?_zip_eq_some] at hi
   obtain ⟨x, hx⟩ : ∃ x, xs[i]? = some x := ⟨_, List.getElem?_eq_getElem (by have := (List.getElem?_eq_some_iff.mp hi.2).1; omega)⟩
   obtain ⟨k', hk', r'⟩ := paired_getR hk (i := i) (b := kf x) (by rw [List.getElem?_map, hx]; rfl)
   rw [hi.1] at hk'
   exact ⟨_, by rw [Option.some.inj hk']; exact r'.key I⟩
  refine wpAny_bind (wpAny_mono (G.wpS_sortRunsSt (κ := G.tupKindC s'.heap shI) (kd := tuples' true) (a₀ := keys.zip vs.toArray) (st := SortSt.mk' (tuples' true) (keys.zip vs.toArray) #[] 7 none)
   (Q := fun _ st' => (arrOf st').Perm (keys.zip vs.toArray) /\ failedOf st' = none /\ SortedToK (G.tupKindC s'.heap shI) (arrOf st') (keys.zip vs.toArray).size)
   (G.tupC_ltAt true (G.KeepsTups.refl _)) hK ⟨Array.Perm.refl _, rfl, rfl⟩ rfl (Stable.refl _) (by rw [hzs]; omega) fun st' a1 a2 a3 _ => ⟨a1, a2, a3⟩) ?_ fun _ _ e => e)
  rintro ⟨⟨⟩, st'⟩ s'' ⟨rfl, hp, hf, hs⟩
  try dsimp only
  exact ksort_tail I Oa Ok hak rv hk hZ hp (by rw [hp.size_eq]; exact hs) hf h
theorem ksort {a : Addr} {n : Nat} {vs : List Value} {xs : List V} {f : Value} (I : Inv X pins σ H s) (ho : s.heap.get? a = some (seqObj "list" vs.toArray n)) (na : H a = none) (Oa : Ours X pins a) (rv : Vals xs vs) (hZ : vs.length <= 1000) (hne : ∀ x ∈ xs, kf x ≠ [])
  (turn : ∀ (pins' : List (Addr × Obj)) (x : V) (v : Value) (s' : Shared) (H' : Hp), x ∈ xs -> RelV x v -> Inv X pins' σ H' s' -> Same H H' ->
   wpAny (model X.prog X.w) A' (call f [v]) (EP X pins' σ fun k H2 => Same H' H2 /\ ∃ t, k = V.ref t /\ H2 t = some (.tup ((kf x).map V.int))) (fun _ _ => False) s')
  (h : ∀ s' H' ys, ys.Perm xs -> ys.Pairwise (fun a b => Vbahas.rowLess (kf b) (kf a) = false) -> Same H H' -> H' a = none -> Inv X pins σ (upd H' a (.lst ys)) s' -> P (.done (.ret .none)) s') :
  wpAny (model X.prog X.w) A' (ksk_tree a f false) P E s := by
 have hlen := rv.length
 have ha : a < s.heap.objs.size := Heap.lt_size ho
 have s1 := Heap.SameBut.update s.heap a (Obj.mapSeq fun _ => (#[] : Array Value))
 obtain ⟨e1, ho1⟩ : ∃ e1, (s.heap.update a (Obj.mapSeq fun _ => (#[] : Array Value))).get? a = some (seqObj "list" #[] e1) := ⟨_, get?_update_seq ho fun _ => #[]⟩
 unfold ksk_tree
 refine wpAny_bind (listItems_at ho rfl ?_)
 refine wpAny_bind (listUpdate_at ho rfl ?_ (by rw [List.size_toArray, sizeLine_eq]; omega) (Nat.zero_le _))
 refine wpAny_bind (seqEpoch_at ho1 rfl ?_)
 refine wpAny_bind (wpAny_newTuple ?_ (by show vs.length <= _; rw [sizeLine_eq]; omega))
 refine wpAny_bind (wpAny_newList ?_ (Nat.zero_le _))
 refine wpAny_holding ?_
 have I1 : Inv X pins σ H { s with heap := s.heap.update a (Obj.mapSeq fun _ => (#[] : Array Value)) } := I.changed (t' := s.toks) Oa na fun b o hb q => (s1.2 b hb).trans q
 have I2 : Inv X pins σ H { s with heap := (s.heap.update a (Obj.mapSeq fun _ => (#[] : Array Value))).push (seqObj "tuple" vs.toArray 0) } := I1.kept (t' := s.toks) fun b o q => Heap.get?_push_of_some _ q
 have I3 : Inv X pins σ H { s with heap := ((s.heap.update a (Obj.mapSeq fun _ => (#[] : Array Value))).push (seqObj "tuple" vs.toArray 0)).push (seqObj "list" #[] 0) } := I2.kept (t' := s.toks) fun b o q => Heap.get?_push_of_some _ q
 have Ok := I2.ours (b := ((s.heap.update a (Obj.mapSeq fun _ => (#[] : Array Value))).push (seqObj "tuple" vs.toArray 0)).objs.size) (Nat.le_refl _)
 have nk : H ((s.heap.update a (Obj.mapSeq fun _ => (#[] : Array Value))).push (seqObj "tuple" vs.toArray 0)).objs.size = none := I2.hok.fresh (Nat.le_refl _)
 have hak : a ≠ ((s.heap.update a (Obj.mapSeq fun _ => (#[] : Array Value))).push (seqObj "tuple" vs.toArray 0)).objs.size := by
  rw [size_push', Heap.size_update]; exact Nat.ne_of_lt (Nat.lt_succ_of_lt ha)
 generalize hkS : ((s.heap.update a (Obj.mapSeq fun _ => (#[] : Array Value))).push (seqObj "tuple" vs.toArray 0)).objs.size = kS at Ok nk hak ⊢
 have ea3 : (((s.heap.update a (Obj.mapSeq fun _ => (#[] : Array Value))).push (seqObj "tuple" vs.toArray 0)).push (seqObj "list" #[] 0)).get? a = some (seqObj "list" #[] e1) := Heap.get?_push_of_some _ (Heap.get?_push_of_some _ ho1)
 have ek3 : (((s.heap.update a (Obj.mapSeq fun _ => (#[] : Array Value))).push (seqObj "tuple" vs.toArray 0)).push (seqObj "list" #[] 0)).get? kS = some (seqObj "list" #[] 0) := by rw [<- hkS]; exact Heap.get?_push_size _ rfl
 have I4 := I3.pin2 Oa Ok ea3 ek3 na nk list_not_cell list_not_cell
 unfold ksk_rest
 refine wpAny_bind (wpAny_rule ?_)
 first
  | rw [List.forIn_toArray]
  | (rw [<- Array.forIn_toList]; simp only [List.toList_toArray])
  | rw [<- Array.forIn_toList]
 refine wpAny_bind (ksk_fold (fun i s' => ∃ H' keys e, Inv X (pins ++ [(a, seqObj "list" #[] e1), (kS, seqObj "list" keys e)]) σ H' s' /\ Same H H' /\ Paired (KeyIs H') keys.toList ((xs.take i).map kf)) vs 0 _
  ⟨H, #[], 0, I4, Same.refl H, .nil⟩ ?step ?done)
 case step =>
  rintro j x s' hx ⟨H', keys, e, I', sm, hk⟩
  simp only [Nat.zero_add] at hk ⊢
  have hj : j < vs.length := (List.getElem?_eq_some_iff.mp hx).1
  obtain ⟨xv, hxv⟩ : ∃ xv, xs[j]? = some xv := ⟨_, List.getElem?_eq_getElem (by omega)⟩
  obtain ⟨u, hu, ru⟩ := rv.get hxv
  rw [hx] at hu
  have eu := Option.some.inj hu
  subst eu
  have hkz : keys.size <= vs.length := by
   have := Paired.length hk
   rw [Array.length_toList, List.length_map, List.length_take] at this
   omega
  refine wpAny_bind (wpAny_attempt (wpAny_mono (turn _ xv x s' H' (List.mem_of_getElem? hxv) ru I' sm) (fun v s'' he => ?_) fun _ _ hF => hF.elim))
  obtain ⟨kv, H2, I2', rk, sm2, t, ekv, ht⟩ := he
  subst ekv
  cases rk
  try dsimp only
  obtain ⟨J0, ⟨ja, jna⟩, ⟨jk, jnk⟩⟩ := I2'.unpin2
  have t1 := Heap.SameBut.update s''.heap kS (Obj.mapSeq (·.push (Value.ref t)))
  obtain ⟨c2, hc2⟩ : ∃ c2, (s''.heap.update kS (Obj.mapSeq (·.push (Value.ref t)))).get? kS = some (seqObj "list" (keys.push (Value.ref t)) c2) := ⟨_, get?_update_seq jk (·.push (Value.ref t))⟩
  have J1 : Inv X pins σ H2 { s'' with heap := s''.heap.update kS (Obj.mapSeq (·.push (Value.ref t))) } := J0.changed (t' := s''.toks) Ok jnk fun b o hb q => (t1.2 b hb).trans q
  refine wpAny_bind (listUpdate_at jk rfl ?_ (by rw [sizeLine_eq]; omega) (Nat.le_trans (Nat.le_of_eq (Array.size_push ..)) (by rw [sizeLine_eq]; omega)))
  refine wpAny_pure ⟨rfl, H2, keys.push (Value.ref t), c2, J1.pin2 Oa Ok ((t1.2 a hak).trans ja) hc2 jna jnk list_not_cell list_not_cell, sm.trans sm2, ?_⟩
  have ek : xs.take (j + 1) = xs.take j ++ [xv] := by rw [List.take_add_one, hxv]; rfl
  rw [ek, List.map_append, Array.toList_push]
  exact paired_snoc ⟨t, rfl, ht⟩ (paired_same sm2 hk)
 case done =>
  rintro s' ⟨H', keys, e, I', sm, hk⟩
  have e3 : xs.take (0 + vs.length) = xs := List.take_of_length_le (by omega)
  rw [e3] at hk
  obtain ⟨J0, ⟨ja, jna⟩, ⟨jk, jnk⟩⟩ := I'.unpin2
  try dsimp only
  refine wpAny_bind (listItems_at jk rfl ?_)
  exact ksort_end I' Oa Ok hak rv hk hne hZ fun s2 ys p w I2 => h s2 H' ys p w sm jna I2
end
end L2
end
section
namespace L2
open PySem PySem.Spec PyProof.Rows
section
variable {X : Cx} {pins : List (Addr × Obj)} {σ : St} {H : Hp}
theorem fields_not_cell {o : Obj} {a : Array Value} (h : o.data = .fields a) : ∀ v, o.data ≠ .cell v := fun v z => by rw [h] at z; cases z
end
section
variable {X : Cx} {pins : List (Addr × Obj)} {σ : St} {H : Hp} {A' : Around} {kf : V -> Int} {l It S : Addr} {xs : List V} {q : Addr} {kw : List (Str × Value)} {R : Result -> Shared -> Prop}
theorem kmin_loop (hh : A'.handled = none) (hl : H l = some (.lst xs)) (hlI : l ≠ It) (OI : Ours X pins It) (OS : Ours X pins S) (hIS : It ≠ S)
  (turn : ∀ (pins' : List (Addr × Obj)) (x : V) (v : Value) (s' : Shared) (H' : Hp), x ∈ xs -> RelV x v -> Inv X pins' σ H' s' -> Same H H' ->
   wpAny (model X.prog X.w) A'.in1 (call (.ref q) [v]) (EP X pins' σ fun k H2 => Same H' H2 /\ k = V.int (kf x)) (fun _ _ => False) s')
  (hR : ∀ s' H' x v, x ∈ xs -> RelV x v -> (∀ y ∈ xs, kf x <= kf y) -> Same H H' -> Inv X pins σ H' s' -> R (.ok (.ret v)) s') :
  ∀ (r j : Nat) (s : Shared) (H' : Hp) (vb : Value) (xb : V) (tb : Tok) (c : Nat) (oI : Obj), xs.length - (j + 1) = r -> j + 1 <= xs.length -> Same H H' ->
   Inv X (pins ++ [(It, oI), (S, seqObj "list" #[vb, .int (kf xb) tb] c)]) σ H' s -> s.heap.IsListIter It l (j + 1) -> xb ∈ xs -> RelV xb vb -> (∀ j' x', j' <= j -> xs[j']? = some x' -> kf xb <= kf x') ->
   codeAny (model X.prog X.w) A' (.builtin "min.loop" ⟨[.ref It, .ref q, .ref S], kw⟩) R s := by
 have hname : (toString "min" ++ toString ".loop" : String) = "min.loop" := by decide
 intro r
 induction r with
 | zero =>
  intro j s H' vb xb tb c oI hr hj sm I hit hxb rxb hbest
  have hin : j + 1 = xs.length := by omega
  obtain ⟨J, ⟨gI, nI⟩, ⟨gS, nS⟩⟩ := I.unpin2
  obtain ⟨its, rv, pl, _⟩ := J.list (SqL.of (K := X.K) (sm _ _ hl))
  have hlen := rv.length
  have W := Walks.list (prog := X.prog) (w := X.w) (A := A'.in1) hh It l hlI its.toArray
  have hsz : its.toArray.size = its.length := List.size_toArray ..
  refine codeAny_builtin PySem.F.entry_min_loop ?_
  rw [Around.under_plainId PySem.F.plain_min_loop _]
  show wpAny _ A'.in1 (seqItems? (.ref S) >>= _) _ _ _
  refine wpAny_bind (wpAny_seqItems gS rfl ?_)
  show wpAny _ A'.in1 (tryCatch (pyNext (.ref It)) _ >>= _) _ _ _
  refine wpAny_bind (wpAny_tryCatch (W.done _ _ _ ⟨by rw [hsz, <- hlen, <- hin]; exact hit, pl.isList⟩ fun h' tk' hk' => ?_))
  have J1 : Inv X pins σ H' { s with heap := h', toks := tk' } := J.changed OI nI fun b o hb e => hk' b o (by simpa using hb) e
  have gS' := hk' S _ (by simpa using hIS.symm) gS
  have s1 := Heap.SameBut.update h' S (Obj.mapSeq fun _ => (#[] : Array Value))
  have J2 : Inv X pins σ H' { s with heap := h'.update S (Obj.mapSeq fun _ => (#[] : Array Value)), toks := tk' } := J1.changed (t' := tk') OS nS fun b o hb e => (s1.2 b hb).trans e
  show wpAny _ A'.in1 (updateSeq S (fun _ => #[]) >>= _) _ _ _
  refine wpAny_bind ?_
  refine wpAny_updateSeq gS' rfl (wpAny_bind (wpAny_letGo (wpAny_pure ?_)))
  refine hR _ H' xb vb hxb rxb (fun y hy => ?_) sm J2
  obtain ⟨j', hj'⟩ := List.getElem?_of_mem hy
  exact hbest j' y (by have := (List.getElem?_eq_some_iff.mp hj').1; omega) hj'
 | succ r ih =>
  intro j s H' vb xb tb c oI hr hj sm I hit hxb rxb hbest
  have hlt : j + 1 < xs.length := by omega
  obtain ⟨J, ⟨gI, nI⟩, ⟨gS, nS⟩⟩ := I.unpin2
  obtain ⟨its, rv, pl, _⟩ := J.list (SqL.of (K := X.K) (sm _ _ hl))
  have hlen := rv.length
  have W := Walks.list (prog := X.prog) (w := X.w) (A := A'.in1) hh It l hlI its.toArray
  have hsz : its.toArray.size = its.length := List.size_toArray ..
  refine codeAny_builtin PySem.F.entry_min_loop ?_
  rw [Around.under_plainId PySem.F.plain_min_loop _]
  show wpAny _ A'.in1 (seqItems? (.ref S) >>= _) _ _ _
  refine wpAny_bind (wpAny_seqItems gS rfl ?_)
  show wpAny _ A'.in1 (tryCatch (pyNext (.ref It)) _ >>= _) _ _ _
  refine wpAny_bind (wpAny_tryCatch (W.item (j + 1) _ _ _ (by rw [hsz]; omega) ⟨hit, pl.isList⟩ fun v h' tk' hP hst' hk' => ?_))
  have hv : its[j + 1]? = some v := by simpa using hP
  obtain ⟨xv, hxv⟩ : ∃ xv, xs[j + 1]? = some xv := ⟨_, List.getElem?_eq_getElem hlt⟩
  obtain ⟨u, hu, ru⟩ := rv.get hxv
  rw [hv] at hu
  have eu := Option.some.inj hu
  subst eu
  have hxm : xv ∈ xs := List.mem_of_getElem? hxv
  obtain ⟨oI', hoI', hoc, hod⟩ := id hst'.1
  have J1 : Inv X pins σ H' { s with heap := h', toks := tk' } := J.changed OI nI fun b o hb e => hk' b o (by simpa using hb) e
  have gS' := hk' S _ (by simpa using hIS.symm) gS
  have J2 := J1.pin2 OI OS hoI' gS' nI nS (fields_not_cell hod) list_not_cell
  show wpAny _ A'.in1 (tryCatch (holding [v] (call (.ref q) [v])) _ >>= _) _ _ _
  refine wpAny_bind (wpAny_tryCatch (wpAny_holding (wpAny_mono (turn _ xv v _ H' hxm ru J2 sm) (fun x s'' he => ?_) fun _ _ hF => hF.elim)))
  obtain ⟨kv, H2, I2, rk, sm2, ekv⟩ := he
  subst ekv
  obtain ⟨t2, rfl⟩ := rk
  obtain ⟨K0, ⟨kI, knI⟩, ⟨kS, knS⟩⟩ := I2.unpin2
  have hit2 : s''.heap.IsListIter It l (j + 1 + 1) := ⟨oI', kI, hoc, hod⟩
  show wpAny _ A'.in1 (tryCatch (holding [v, .int (kf xv) t2] (richCompare .Lt (.int (kf xv) t2) (.int (kf xb) tb) >>= _)) _ >>= _) _ _ _
  refine wpAny_bind (wpAny_tryCatch (wpAny_holding (wpAny_bind (CmpOf.ints_lt (prog := X.prog) (w := X.w) (A := A'.in1) (P := fun i v => ∃ t, v = .int ((fun i => if i = 0 then kf xv else kf xb) i) t) (fun i => if i = 0 then kf xv else kf xb) (fun i v h => h) 0 1 _ _ _ _ _ ⟨t2, rfl⟩ ⟨tb, rfl⟩ ?_))))
  refine wpAny_bind (wpAny_holding (wpAny_truthy_bool ?_))
  refine wpAny_bind (wpAny_letGo (wpAny_pure ?_))
  simp only [if_true, Nat.one_ne_zero, if_false]
  by_cases hb' : kf xv < kf xb
  ·have s1 := Heap.SameBut.update s''.heap S (Obj.mapSeq fun _ => #[v, .int (kf xv) t2])
   obtain ⟨c2, hc2⟩ : ∃ c2, (s''.heap.update S (Obj.mapSeq fun _ => #[v, .int (kf xv) t2])).get? S = some (seqObj "list" #[v, .int (kf xv) t2] c2) := ⟨_, get?_update_seq kS fun _ => #[v, .int (kf xv) t2]⟩
   simp only [hb', decide_true, if_true]
   refine wpAny_bind ?_
   refine wpAny_updateSeq kS rfl (wpAny_bind (wpAny_letGo ?_))
   rw [hname]
   have K1 : Inv X pins σ H2 { s'' with heap := s''.heap.update S (Obj.mapSeq fun _ => #[v, .int (kf xv) t2]) } := K0.changed (t' := s''.toks) OS knS fun b o hb e => (s1.2 b hb).trans e
   refine wpAny_pure ⟨plainId_quiet PySem.F.plain_min_loop _, ih (j + 1) _ H2 v xv t2 c2 oI' (by omega) hlt (sm.trans sm2) (K1.pin2 OI OS ((s1.2 It hIS).trans kI) hc2 knI knS (fields_not_cell hod) list_not_cell) ⟨oI', (s1.2 It hIS).trans kI, hoc, hod⟩ hxm ru fun j' x' hj' hx' => ?_⟩
   by_cases e : j' = j + 1
   ·subst e
    rw [hxv] at hx'
    rw [Option.some.inj hx']
    exact Int.le_refl _
   ·have := hbest j' x' (by omega) hx'
    omega
  ·simp only [hb', decide_false, Bool.false_eq_true, if_false]
   refine wpAny_bind (wpAny_letGo ?_)
   rw [hname]
   refine wpAny_pure ⟨plainId_quiet PySem.F.plain_min_loop _, ih (j + 1) _ H2 vb xb tb c oI' (by omega) hlt (sm.trans sm2) I2 hit2 hxb rxb fun j' x' hj' hx' => ?_⟩
   by_cases e : j' = j + 1
   ·subst e
    rw [hxv] at hx'
    rw [<- Option.some.inj hx']
    omega
   ·exact hbest j' x' (by omega) hx'
end
end L2
end
section
namespace L2
open PySem PySem.Spec PyProof.Rows
theorem Same.upd {H : Hp} {l : Addr} {o : HO} (h : H l = none) : Same H (L2.upd H l o) := fun b u e => by rw [uN (nN e h)]; exact e
def RetL (H : Hp) (xs : List V) (Q : VK) : Prop := ∀ l H', H l = none -> Same H H' -> H' l = some (.lst xs) -> Q (.ref l) H'
theorem RetL.of {H H1 : Hp} {xs : List V} {Q : VK} (r : RetL H xs Q) (s : Same H H1) : ∀ l, H1 l = none -> Q (.ref l) (upd H1 l (.lst xs)) := fun l h => r l _ (s.free h) (s.trans (Same.upd h)) uS
theorem line1000 {n : Nat} (h : n <= 1000) : n <= sizeLine := Nat.le_trans h (by decide)
theorem lt1000 {n : Nat} (h : n < 1000) : n < sizeLine := Nat.lt_of_lt_of_le h (by decide)
theorem lc_pure {K : PySem.W.Frag} {a : Addr} {α : Type} {xs : List α} {enc : α -> V} {p : α -> Bool} {f : α -> V} {g : TG} {tt : TT} {te : TE} {vs : List Nat} {σ : St} {H1 : Hp} {D : Addr} {Qd : Hp -> Prop}
  (hsrc : ∀ H, Same H1 H -> SqL K H a (xs.map enc)) (hD : H1 D = none) (hz : xs.length <= 1000)
  (hs : ∀ x H (N : Hp -> Prop) (acc : List V), x ∈ xs -> Same H1 H -> H D = some (.lst acc) -> acc.length < 1000 ->
   (∀ H', Same H1 H' -> H' D = some (.lst (if p x = true then acc ++ [f x] else acc)) -> N H') ->
   g (enc x) (wipe σ vs) H fun σ2 H2 => wipe σ2 vs = wipe σ vs /\ tt σ2 H2 fun b H3 => if b = true then te σ2 H3 fun y H4 => ∃ acc', H4 D = some (.lst acc') /\ acc'.length < sizeLine /\ N (upd H4 D (.lst (acc' ++ [y]))) else N H3)
  (hd : ∀ H, Same H1 H -> H D = some (.lst ((xs.filter p).map f)) -> Qd H) :
  ∃ W : Nat -> Nat -> Hp -> Prop, (∃ m, W 0 m (upd H1 D (.lst []))) /\ ∀ i m H, W i m H ->
   ((Itl K a).stop i H /\ Qd H) \/ ((Itl K a).go i H /\ ∃ Nx : Hp -> Prop, (∀ H', Nx H' -> ∃ m', m' < m /\ W (i + 1) m' H') /\ ∀ x H', (Itl K a).yld i H x H' -> g x (wipe σ vs) H' fun σ2 H2 => wipe σ2 vs = wipe σ vs /\ tt σ2 H2 fun b H3 =>
    if b = true then te σ2 H3 fun y H4 => ∃ acc, H4 D = some (.lst acc) /\ acc.length < sizeLine /\ Nx (upd H4 D (.lst (acc ++ [y]))) else Nx H3) := by
 refine lc_list (xs := xs.map enc) (fun i H => Same H1 H /\ H D = some (.lst (((xs.take i).filter p).map f))) ⟨Same.upd hD, uS⟩ (fun i H _ h => hsrc H h.1) (fun i v H hv ⟨sm, hacc⟩ => ?_) fun H ⟨sm, h⟩ => hd H sm (by rw [List.length_map, List.take_length] at h; exact h)
 obtain ⟨x, hx, rfl⟩ : ∃ x, xs[i]? = some x /\ enc x = v := by
  rw [List.getElem?_map] at hv
  exact Option.map_eq_some_iff.mp hv
 have hi : i < xs.length := (List.getElem?_eq_some_iff.mp hx).1
 refine hs x H _ _ (List.mem_of_getElem? hx) sm hacc ?_ fun H' s' h' => ⟨s', ?_⟩
 ·rw [List.length_map]
  have h1 := List.length_filter_le p (xs.take i)
  rw [List.length_take] at h1
  omega
 ·rw [h']
  have e : xs.take (i + 1) = xs.take i ++ [x] := by rw [List.take_add_one, hx]; rfl
  rw [e, List.filter_append, List.map_append]
  cases hp : p x with
  | true => simp [hp]
  | false => simp [hp]
theorem lc_vals {d : Addr} {o : Obj} {α : Type} {xs : List α} {key : α -> Key} {enc : α -> V} {p : α -> Bool} {f : α -> V} {g : TG} {tt : TT} {te : TE} {vs : List Nat} {σ : St} {H1 : Hp} {D : Addr} {Qd : Hp -> Prop}
  (hsrc : H1 d = some (.frz o (.dK (xs.map fun x => (key x, enc x))))) (hD : H1 D = none) (hz : xs.length <= 1000)
  (hs : ∀ x H (N : Hp -> Prop) (acc : List V), x ∈ xs -> Same H1 H -> H D = some (.lst acc) -> acc.length < 1000 ->
   (∀ H', Same H1 H' -> H' D = some (.lst (if p x = true then acc ++ [f x] else acc)) -> N H') ->
   g (enc x) (wipe σ vs) H fun σ2 H2 => wipe σ2 vs = wipe σ vs /\ tt σ2 H2 fun b H3 => if b = true then te σ2 H3 fun y H4 => ∃ acc', H4 D = some (.lst acc') /\ acc'.length < sizeLine /\ N (upd H4 D (.lst (acc' ++ [y]))) else N H3)
  (hd : ∀ H, Same H1 H -> H D = some (.lst ((xs.filter p).map f)) -> Qd H) :
  ∃ W : Nat -> Nat -> Hp -> Prop, (∃ m, W 0 m (upd H1 D (.lst []))) /\ ∀ i m H, W i m H ->
   ((Itd d o (xs.map fun x => (key x, enc x))).stop i H /\ Qd H) \/ ((Itd d o (xs.map fun x => (key x, enc x))).go i H /\ ∃ Nx : Hp -> Prop, (∀ H', Nx H' -> ∃ m', m' < m /\ W (i + 1) m' H') /\ ∀ x H', (Itd d o (xs.map fun x => (key x, enc x))).yld i H x H' -> g x (wipe σ vs) H' fun σ2 H2 => wipe σ2 vs = wipe σ vs /\ tt σ2 H2 fun b H3 =>
    if b = true then te σ2 H3 fun y H4 => ∃ acc, H4 D = some (.lst acc) /\ acc.length < sizeLine /\ Nx (upd H4 D (.lst (acc ++ [y]))) else Nx H3) := by
 refine ⟨fun i m H => m = xs.length - i /\ i <= xs.length /\ Same H1 H /\ H D = some (.lst (((xs.take i).filter p).map f)), ⟨xs.length, by simp, Nat.zero_le _, Same.upd hD, uS⟩, ?_⟩
 rintro i m H ⟨rfl, hi, sm, hacc⟩
 by_cases hlt : i < xs.length
 ·refine .inr ⟨⟨sm _ _ hsrc, by rw [List.length_map]; exact hlt⟩, fun H' => i + 1 <= xs.length /\ Same H1 H' /\ H' D = some (.lst (((xs.take (i + 1)).filter p).map f)), fun H' p' => ⟨xs.length - (i + 1), by omega, rfl, p'⟩, fun v H' y => ?_⟩
  obtain ⟨e, k, hk⟩ := y
  subst e
  rw [List.getElem?_map] at hk
  obtain ⟨x, hx, ex⟩ := Option.map_eq_some_iff.mp hk
  injection ex with _ ev
  subst ev
  refine hs x _ _ _ (List.mem_of_getElem? hx) sm hacc ?_ fun H' s' h' => ⟨hlt, s', ?_⟩
  ·rw [List.length_map]
   have h1 := List.length_filter_le p (xs.take i)
   rw [List.length_take] at h1
   omega
  ·rw [h']
   have e : xs.take (i + 1) = xs.take i ++ [x] := by rw [List.take_add_one, hx]; rfl
   rw [e, List.filter_append, List.map_append]
   cases hp : p x with
   | true => simp [hp]
   | false => simp [hp]
 ·have e : i = xs.length := by omega
  subst e
  refine .inl ⟨⟨sm _ _ hsrc, by rw [List.length_map]; exact Nat.le_refl _⟩, hd H sm ?_⟩
  rw [List.take_length] at hacc
  exact hacc
theorem for_vals {d : Addr} {o : Obj} {kvs : List (Key × V)} {g : TG} {tb : TS} {D : Ends} {σ : St} {H : Hp} (Pv : Nat -> St -> Hp -> Prop) (h0 : Pv 0 σ H) (hl : ∀ i σ H, i <= kvs.length -> Pv i σ H -> H d = some (.frz o (.dK kvs)))
  (hs : ∀ i k x σ H, kvs[i]? = some (k, x) -> Pv i σ H -> g x σ H fun σ2 H2 => tb { D with nx := Pv (i + 1), ct := Pv (i + 1), bk := D.nx } σ2 H2) (hd : ∀ σ H, Pv kvs.length σ H -> D.nx σ H) :
  ∃ W : Nat -> Nat -> St -> Hp -> Prop, (∃ m, W 0 m σ H) /\ ∀ i m σ H, W i m σ H ->
   ((Itd d o kvs).stop i H /\ D.nx σ H) \/ ((Itd d o kvs).go i H /\ ∃ N : St -> Hp -> Prop, (∀ σ' H', N σ' H' -> ∃ m', m' < m /\ W (i + 1) m' σ' H') /\ ∀ x H', (Itd d o kvs).yld i H x H' -> g x σ H' fun σ2 H2 => tb { D with nx := N, ct := N, bk := D.nx } σ2 H2) := by
 refine ⟨fun i m σ H => m = kvs.length - i /\ i <= kvs.length /\ Pv i σ H, ⟨kvs.length, by simp, Nat.zero_le _, h0⟩, ?_⟩
 rintro i m σ H ⟨rfl, hi, p⟩
 have q := hl i σ H hi p
 by_cases hlt : i < kvs.length
 ·refine .inr ⟨⟨q, hlt⟩, Pv (i + 1), fun σ' H' p' => ⟨kvs.length - (i + 1), by omega, rfl, hlt, p'⟩, fun x H' y => ?_⟩
  obtain ⟨e, k, hk⟩ := y
  subst e
  exact hs i k x σ _ hk p
 ·have e : i = kvs.length := by omega
  subst e
  exact .inl ⟨⟨q, Nat.le_refl _⟩, hd σ H p⟩
end L2
end
section
namespace L2
open PySem PySem.Spec PyProof.Rows
def CallKR (X : Cx) (id : String) (ks : List Str) (r : List V -> List V -> Hp -> VK -> Prop) : Prop :=
 ∀ (pins : List (Addr × Obj)) (s : Shared) (σ : St) (H : Hp) (xs : List V) (us : List Value) (zs : List V) (ws : List Value) (Q : VK), Inv X pins σ H s -> Vals xs us -> Vals zs ws -> r xs zs H Q ->
  wpAny (model X.prog X.w) X.A (call (.builtin id) us (ks.zip ws)) (EP X pins σ Q) X.xe s
section
variable {X : Cx} {x : Str} {p pos : Pos} {e : Expr} {es : List Expr} {t tk : TA} {id : String} {ks : List Str} {kws : List Keyword} {r : List V -> List V -> Hp -> VK -> Prop}
def tCBK (r : List V -> List V -> Hp -> VK -> Prop) (t tk : TA) : TE := fun σ H Q => t σ H fun vs H1 => tk σ H1 fun zs H2 => r vs zs H2 Q
theorem pe_callBK (hc : CallKR X id ks r) (hg : Gl X x) (hm : X.mg x = none) (hv : bootBuiltins x = some (.builtin id)) (ha : PA X (e :: es) t) (hkw : PK X kws tk) (hks : (backToKw pos (keywordEach kws X.env)).filterMap (·.1) = ks := by rfl)
  (hn : x ≠ "__name__" := by decide) (hdb : (x == ("__debug__" : Str)) = false := by decide)
  (he : backTo pos (starEach (e :: es) X.env) = (false, eval e X.env) :: backTo pos (starEach es X.env) := by rfl)
  (hpl : (backTo pos (starEach (e :: es) X.env)).any (·.1) = false := by rfl)
  (hall : (backToKw pos (keywordEach kws X.env)).all (·.1.isSome) = true := by rfl)
  (hnn : (backToKw pos (keywordEach kws X.env)).any (·.1.isNone) = false := by rfl) : PE X (.Call (.Name x p) (e :: es) kws pos) (tCBK r t tk) := by
 intro pins s σ H Q I h
 refine wpAny_Call_Name_kw (ld_blt I hg hm hv ?_ hn hdb)
 refine PyProof.Rows.callWith_kw (thn (ha pos pins s σ H _ I h) fun us s1 ⟨vs, H1, I1, r1, q1⟩ => ?_) he hpl hall hnn
 refine thn (hkw pos pins s1 σ H1 _ I1 q1) fun ws s2 ⟨zs, H2, I2, rz, q2⟩ => ?_
 rw [hks]
 exact hc pins s2 σ H2 vs us zs ws Q I2 r1 rz q2
end
def valsV (v d : Addr) : HO := .ext fun h => h.get? v = some { cls := .type "dict_values", data := .fields #[.ref d] }
def Src (K : PySem.W.Frag) (H : Hp) (a : Addr) (ys : List V) : Prop := SqL K H a ys \/ ∃ d kvs, H a = some (valsV a d) /\ H d = some (.dK kvs) /\ ys = kvs.map (·.2)
section
variable {X : Cx} {pins : List (Addr × Obj)} {σ : St} {H : Hp} {s : Shared} {A' : Around} {E : Value -> Shared -> Prop}
theorem Src.collect (hh : A'.handled = none) (I : Inv X pins σ H s) {a : Addr} {ys : List V} (h : Src X.K H a ys) (hz : ys.length <= 1000) {Q : List Value -> Shared -> Prop}
  (hq : ∀ its h' tk, Vals ys its -> (∀ b o, s.heap.get? b = some o -> h'.get? b = some o) -> Q its { s with heap := h', toks := tk }) : wpAny (model X.prog X.w) A' (collect (.ref a)) Q E s := by
 rcases h with h | ⟨d, kvs, hv, hd, rfl⟩
 ·obtain ⟨its, rv, pl, _⟩ := I.list h
  have hlen := rv.length
  refine collect_list pl.isList (hq its _ s.toks rv fun b o e => ?_) (by rw [sizeLine_eq]; omega)
  have hlt : b < s.heap.objs.size := Heap.lt_size e
  rw [Heap.get?_update_ne _ _ _ _ (Nat.ne_of_lt hlt), Heap.get?_push_ne _ _ _ (Nat.ne_of_lt hlt)]
  exact e
 ·obtain ⟨hv1, _, _⟩ := I.hok a _ hv
  obtain ⟨z, hdm, vs, rel, dd⟩ := dk_of I.hok hd
  obtain ⟨ep, hat⟩ := dd.dictAt
  have hl : kvs.length = vs.length := Paired.length rel
  rw [List.length_map] at hz
  refine PySem.W.kdu_collect (PySem.W.kdl_values (knd := mixKind X.prog X.w) (kvs := vs) (ep := ep)) hh ⟨⟨_, hv1, rfl, rfl⟩, hat⟩ (by rw [sizeLine_eq]; omega) fun h' tk acc hk hacc => ?_
  refine hq acc.toList h' tk ?_ hk
  have e := PySem.W.kdl_vals_eq (kvs := vs) acc.toList (by rw [Array.length_toList]; exact hacc.1) fun j v hv => by
   obtain ⟨k, hx⟩ := hacc.2 j v (by rw [<- Array.getElem?_toList]; exact hv)
   exact ⟨k, hx⟩
  rw [e]
  have all : ∀ {l : List (Key × V)} {m : List (Key × Value)}, KV l m -> Vals (l.map (·.2)) (m.map (·.2)) := by
   intro l m q
   induction q with
   | nil => exact .nil
   | cons r t ih => exact .cons r.2 ih
  exact all rel
end
section
variable {X : Cx}
def KeyOf (sp : Sp) (kf : V -> List Int) (ys : List V) (H : Hp) : Prop := ∀ x ∈ ys, ∀ H', Same H H' -> sp [x] H' (fun k H2 => Same H' H2 /\ ∃ t, k = V.ref t /\ H2 t = some (.tup ((kf x).map V.int))) E0
def rSortK (K : PySem.W.Frag) (f : Addr) (sp : Sp) : List V -> List V -> Hp -> VK -> Prop := fun xs zs H Q => ∃ a ys kf, xs = [V.ref a] /\ zs = [V.ref f] /\ Src K H a ys /\ ys.length <= 1000 /\ (∀ x ∈ ys, kf x ≠ []) /\ KeyOf sp kf ys H /\
 ∀ ys' p H', ys'.Perm ys -> ys'.Pairwise (fun a b => Vbahas.rowLess (kf b) (kf a) = false) -> Same H H' -> H' p = some (.lst ys') -> H p = none -> Q (.ref p) H'
theorem cr_sortK {k : Nat} {f : Addr} {fd : FuncData} {pn : Str} {sp : Sp} (hc : X.calm = true) (F : FnOk X.prog X.w X.K X.mg X.base CX0 k f fd [pn] sp) (hr : Room (k + 2) X.A) (hb : Binds X.K fd [pn] []) : CallKR X "sorted" ["key"] (rSortK X.K f sp) := by
 intro pins s σ H xs us zs ws Q I r rz h
 obtain ⟨a, ys, kf, rfl, rfl, src, hz, hne, hkey, q⟩ := h
 obtain ⟨u, rfl, ru⟩ := r.one
 obtain ⟨w, rfl, rw'⟩ := rz.one
 cases ru
 cases rw'
 have hh : X.A.handled = none := I.ok.hd hc
 show wpAny _ _ (call (.builtin "sorted") [.ref a] [(Str.ofString "key", .ref f)]) _ _ _
 refine call_function_entry_kw kind_sorted plain_sorted entry_sorted (ksk_s1 _ _) ?_
 unfold Builtin.«sorted»
 refine wpAny_bind (m := checkCount "sorted" 1 1 _) (wpAny_pure ?_)
 refine wpAny_bind (src.collect (A' := X.A.in1) hh I hz fun its h' tk rv hk => ?_)
 have hlen := rv.length
 have I1 : Inv X pins σ H { s with heap := h', toks := tk } := I.kept hk
 refine wpAny_bind (wpAny_newList ?_ (by rw [sizeLine_eq]; omega))
 have I2 : Inv X pins σ H { s with heap := h'.push (seqObj "list" its.toArray 0), toks := tk } := I1.kept (t' := tk) fun b o e => Heap.get?_push_of_some _ e
 have hoL : (h'.push (seqObj "list" its.toArray 0)).get? h'.objs.size = some (seqObj "list" its.toArray 0) := Heap.get?_push_size _ rfl
 have Oa := I1.ours (b := h'.objs.size) (Nat.le_refl _)
 have na : H h'.objs.size = none := I1.hok.fresh (Nat.le_refl _)
 refine wpAny_bind (wpAny_holding (wpAny_call_entry_kw slot_list_sort ⟨_, hoL, rfl⟩ entry_list_sort ?body (ksk_l1 _ _)))
 case body =>
  show wpAny (model X.prog X.w) X.A.in1.in1 (Builtin.«list.sort» ⟨[.ref h'.objs.size], [(Str.ofString "key", .ref f)]⟩) _ _ _
  rw [ksk_t1]
  refine ksort (kf := kf) (A' := X.A.in1.in1) I2 hoL na Oa rv (by omega) hne (fun pins' x v s' H' hx rx I' sm => ?_) fun s' H' ys' p w sm n' I' => ⟨_, rfl, wpAny_pure ⟨_, rfl, ⟨.ref h'.objs.size, _, I', rfl, ?_⟩⟩⟩
  ·exact run_fnA F rfl hr.in1.in1 hb I' (.cons rx .nil) (hkey x hx H' sm)
  ·exact q ys' _ _ p w (sm.trans (Same.upd n')) uS na
end
theorem args_min_kd (a v d : Value) : argsOk "min" ⟨[a], [(Str.ofString "key", v), (Str.ofString "default", d)]⟩ := by unfold argsOk; kernel_rfl
section
variable {X : Cx}
def KeyInt (sp : Sp) (kf : V -> Int) (ys : List V) (H : Hp) : Prop := ∀ x ∈ ys, ∀ H', Same H H' -> sp [x] H' (fun k H2 => Same H' H2 /\ k = V.int (kf x)) E0
def rMinK (f : Addr) (sp : Sp) : List V -> List V -> Hp -> VK -> Prop := fun xs zs H Q => ∃ a ys kf d, xs = [V.ref a] /\ zs = [V.ref f, d] /\ H a = some (.lst ys) /\ KeyInt sp kf ys H /\
 (ys = [] -> Q d H) /\ ∀ m H', m ∈ ys -> (∀ y ∈ ys, kf m <= kf y) -> Same H H' -> Q m H'
theorem cr_minK {k : Nat} {f : Addr} {fd : FuncData} {pn : Str} {sp : Sp} (hc : X.calm = true) (F : FnOk X.prog X.w X.K X.mg X.base CX0 k f fd [pn] sp) (hr : Room (k + 1) X.A) (hb : Binds X.K fd [pn] []) : CallKR X "min" ["key", "default"] (rMinK f sp) := by
 intro pins s σ H xs us zs ws Q I r rz h
 obtain ⟨l, ys, kf, d, rfl, rfl, hl, hkey, q0, q1⟩ := h
 obtain ⟨u, rfl, ru⟩ := r.one
 obtain ⟨w, wd, rfl, rw', rd⟩ := rz.two
 cases ru
 cases rw'
 have hh : X.A.handled = none := I.ok.hd hc
 have hname : (toString "min" ++ toString ".loop" : String) = "min.loop" := by decide
 obtain ⟨its, rv, pl, _⟩ := I.list (SqL.of (K := X.K) hl)
 have hlen := rv.length
 obtain ⟨ol, hol, _⟩ := id pl.isList
 have hll : l < s.heap.objs.size := Heap.lt_size hol
 show wpAny _ _ (call (.builtin "min") [.ref l] [(Str.ofString "key", .ref f), (Str.ofString "default", wd)]) _ _ _
 refine kmk_tree PySem.F.kind_min PySem.F.plain_min PySem.F.entry_min (args_min_kd _ _ _) ?_
 show wpAny _ X.A.in1 (Builtin.Builtins.bindParams "min" ["key", "default"] 0 ⟨[], [(Str.ofString "key", .ref f), (Str.ofString "default", wd)]⟩ >>= _) _ _ s
 refine wpAny_bind (wpAny_of_eq (show Builtin.Builtins.bindParams "min" ["key", "default"] 0 ⟨[], [(Str.ofString "key", .ref f), (Str.ofString "default", wd)]⟩ = pure [some (.ref f), some wd] from rfl) ?_)
 refine wpAny_bind (wpAny_pure ?_)
 refine wpAny_bind (wpAny_pyIter_list pl.isList ?_)
 refine wpAny_bind (wpAny_newList ?_ (Nat.zero_le _))
 rw [hname]
 have I1 : Inv X pins σ H { s with heap := s.heap.push { cls := .type "list_iterator", data := .fields #[.ref l, .int 0 0] } } := I.kept (t' := s.toks) fun b o e => Heap.get?_push_of_some _ e
 have I2 : Inv X pins σ H { s with heap := (s.heap.push { cls := .type "list_iterator", data := .fields #[.ref l, .int 0 0] }).push (seqObj "list" #[] 0) } := I1.kept (t' := s.toks) fun b o e => Heap.get?_push_of_some _ e
 have OI := I.ours (b := s.heap.objs.size) (Nat.le_refl _)
 have nI : H s.heap.objs.size = none := I.hok.fresh (Nat.le_refl _)
 have OS := I1.ours (b := (s.heap.push { cls := .type "list_iterator", data := .fields #[.ref l, .int 0 0] }).objs.size) (Nat.le_refl _)
 have nS : H (s.heap.push { cls := .type "list_iterator", data := .fields #[.ref l, .int 0 0] }).objs.size = none := I1.hok.fresh (Nat.le_refl _)
 have hlI : l ≠ s.heap.objs.size := Nat.ne_of_lt hll
 have hIS : s.heap.objs.size ≠ (s.heap.push { cls := .type "list_iterator", data := .fields #[.ref l, .int 0 0] }).objs.size := by rw [size_push']; exact Nat.ne_of_lt (Nat.lt_succ_self _)
 have gI : ((s.heap.push { cls := .type "list_iterator", data := .fields #[.ref l, .int 0 0] }).push (seqObj "list" #[] 0)).get? s.heap.objs.size = some { cls := .type "list_iterator", data := .fields #[.ref l, .int 0 0] } :=
  Heap.get?_push_of_some _ (Heap.get?_push_size _ rfl)
 have gS : ((s.heap.push { cls := .type "list_iterator", data := .fields #[.ref l, .int 0 0] }).push (seqObj "list" #[] 0)).get? (s.heap.push { cls := .type "list_iterator", data := .fields #[.ref l, .int 0 0] }).objs.size = some (seqObj "list" #[] 0) := Heap.get?_push_size _ rfl
 generalize (s.heap.push { cls := .type "list_iterator", data := .fields #[.ref l, .int 0 0] }).objs.size = S at OS nS hIS gS ⊢
 generalize s.heap.objs.size = It at OI nI hlI hIS gI ⊢
 have W := Walks.list (prog := X.prog) (w := X.w) (A := X.A.in1) hh It l hlI its.toArray
 have hsz : its.toArray.size = its.length := List.size_toArray ..
 obtain ⟨its2, rv2, pl2, _⟩ := I2.list (SqL.of (K := X.K) hl)
 have hlen2 := rv2.length
 have W := Walks.list (prog := X.prog) (w := X.w) (A := X.A.in1) hh It l hlI its2.toArray
 have hsz2 : its2.toArray.size = its2.length := List.size_toArray ..
 refine wpAny_pure ⟨plainId_quiet PySem.F.plain_min_loop _, ?_⟩
 refine codeAny_builtin PySem.F.entry_min_loop ?_
 rw [Around.under_plainId PySem.F.plain_min_loop _]
 show wpAny _ X.A.in1 (seqItems? (.ref S) >>= _) _ _ _
 refine wpAny_bind (wpAny_seqItems gS rfl ?_)
 show wpAny _ X.A.in1 (tryCatch (pyNext (.ref It)) _ >>= _) _ _ _
 by_cases hne : ys.length = 0
 ·refine wpAny_bind (wpAny_tryCatch (W.done _ _ _ ⟨by rw [hsz2, <- hlen2, hne]; exact ⟨_, gI, rfl, rfl⟩, pl2.isList⟩ fun h' tk' hk' => ?_))
  have J1 : Inv X pins σ H { s with heap := h', toks := tk' } := I2.changed OI nI fun b o hb e => hk' b o (by simpa using hb) e
  show wpAny _ X.A.in1 (rule _ >>= _) _ _ _
  refine wpAny_bind (wpAny_rule (wpAny_pure ?_))
  exact ⟨d, H, J1, rd, q0 (List.eq_nil_of_length_eq_zero hne)⟩
 ·refine wpAny_bind (wpAny_tryCatch (W.item 0 _ _ _ (by rw [hsz2]; omega) ⟨⟨_, gI, rfl, rfl⟩, pl2.isList⟩ fun v h' tk' hP hst' hk' => ?_))
  have hv : its2[0]? = some v := by simpa using hP
  obtain ⟨xv, hxv⟩ : ∃ xv, ys[0]? = some xv := ⟨_, List.getElem?_eq_getElem (by omega)⟩
  obtain ⟨u, hu, ru⟩ := rv2.get hxv
  rw [hv] at hu
  have eu := Option.some.inj hu
  subst eu
  have hxm : xv ∈ ys := List.mem_of_getElem? hxv
  obtain ⟨oI', hoI', hoc, hod⟩ := id hst'.1
  have J1 : Inv X pins σ H { s with heap := h', toks := tk' } := I2.changed OI nI fun b o hb e => hk' b o (by simpa using hb) e
  have gS' := hk' S _ (by simpa using hIS.symm) gS
  have J2 := J1.pin2 OI OS hoI' gS' nI nS (fields_not_cell hod) list_not_cell
  show wpAny _ X.A.in1 (tryCatch (holding [v] (call (.ref f) [v])) _ >>= _) _ _ _
  have hrun := run_fnA (A' := X.A.in1) (E' := fun _ _ => False) F rfl hr.in1 hb J2 (.cons ru .nil) (hkey xv hxm H (Same.refl H))
  refine wpAny_bind (wpAny_tryCatch (wpAny_holding (wpAny_mono hrun (fun x s'' he => ?_) fun _ _ hF => hF.elim)))
  obtain ⟨kv, H2, I2', rk, sm2, ekv⟩ := he
  subst ekv
  obtain ⟨t2, rfl⟩ := rk
  obtain ⟨K0, ⟨kI, knI⟩, ⟨kS, knS⟩⟩ := I2'.unpin2
  have s1 := Heap.SameBut.update s''.heap S (Obj.mapSeq fun _ => #[v, .int (kf xv) t2])
  obtain ⟨c2, hc2⟩ : ∃ c2, (s''.heap.update S (Obj.mapSeq fun _ => #[v, .int (kf xv) t2])).get? S = some (seqObj "list" #[v, .int (kf xv) t2] c2) := ⟨_, get?_update_seq kS fun _ => #[v, .int (kf xv) t2]⟩
  show wpAny _ X.A.in1 (updateSeq S (fun _ => #[v, .int (kf xv) t2]) >>= _) _ _ _
  refine wpAny_bind ?_
  refine wpAny_updateSeq kS rfl ?_
  rw [hname]
  have K1 : Inv X pins σ H2 { s'' with heap := s''.heap.update S (Obj.mapSeq fun _ => #[v, .int (kf xv) t2]) } := K0.changed (t' := s''.toks) OS knS fun b o hb e => (s1.2 b hb).trans e
  refine wpAny_pure ⟨plainId_quiet PySem.F.plain_min_loop _, kmin_loop (A' := X.A) (kf := kf) (H := H) hh hl hlI OI OS hIS (fun pins' x v s' H' hx rx I' sm => run_fnA F rfl hr.in1 hb I' (.cons rx .nil) (hkey x hx H' sm))
   (fun s' H' x v hx rx hle sm I' => ⟨x, H', I', rx, q1 x H' hx hle sm⟩) _ 0 _ H2 v xv t2 c2 oI' rfl (by omega) sm2 (K1.pin2 OI OS ((s1.2 It hIS).trans kI) hc2 knI knS (fields_not_cell hod) list_not_cell) ⟨oI', (s1.2 It hIS).trans kI, hoc, hod⟩ hxm ru fun j' x' hj' hx' => ?_⟩
  have e : j' = 0 := by omega
  subst e
  rw [hxv] at hx'
  rw [Option.some.inj hx']
  exact Int.le_refl _
end
end L2
end
section
namespace L2
open PySem PySem.Spec PyProof.Rows
section
variable {X : Cx}
def tRng2 (ta : TA) : TE := fun σ H Q => ta σ H fun vs H1 => ∃ i j : Int, vs = [.int i, .int j] /\ ∀ r, H1 r = none -> Q (.ref r) (upd H1 r (.rng i j))
theorem pe_range2 {a b : Expr} {ta : TA} {p pos : Pos} (hg : Gl X "range") (hm : X.mg "range" = none) (ha : PA X [a, b] ta) (hs : starEach [a, b] X.env = [(false, eval a X.env), (false, eval b X.env)] := by rfl) (hs2 : starEach [b] X.env = [(false, eval b X.env)] := by rfl) :
  PE X (.Call (.Name "range" p) [a, b] [] pos) (tRng2 ta) := by
 intro pins s σ H Q I h
 refine Call_ (ld_blt I hg hm boot_range (PyProof.Rows.callWith_type1 (thn (ha pos pins s σ H _ I h) fun us s1 ⟨vs, H1, I1, r1, q1⟩ => ?_) (by rw [hs, hs2]) (by rw [hs2]; rfl)))
 obtain ⟨i, j, e, q⟩ := q1
 subst e
 obtain ⟨u, v, rfl, ru, rv⟩ := r1.two
 obtain ⟨t, rfl⟩ := ru
 obtain ⟨t', rfl⟩ := rv
 refine call_range_2 ⟨.ref s1.heap.objs.size, _, I1.laid (fun b u e => Heap.get?_push_of_some _ e) (Nat.le_refl _) ?_, rfl, q _ I1.fresh⟩
 exact ⟨t, t', s1.toks, Heap.get?_push_size _ rfl⟩
theorem call_list_rng (hc : X.calm = true) : CallR X (.type "list") (fun xs H Q => ∃ r i j n, xs = [.ref r] /\ H r = some (.rng i j) /\ -(2 ^ 62) <= i /\ i < 2 ^ 62 /\ -(2 ^ 62) <= j /\ j < 2 ^ 62 /\ j - i = (n : Nat) /\ n <= 1000 /\
  ∀ l, H l = none -> Q (.ref l) (upd H l (.lst ((List.range n).map fun k => V.int (i + (k : Nat)))))) := by
 intro pins s σ H xs us Q I r h
 obtain ⟨rr, i, j, n, rfl, hr, h1, h2, h3, h4, hn, hz, q⟩ := h
 obtain ⟨u, rfl, ru⟩ := r.one
 cases ru
 obtain ⟨t, t', t'', e⟩ := I.hok rr _ hr
 have hsz : Builtin.Range.rangeSize i j 1 = (n : Int) := by
  rw [rangeSize_one]; split <;> omega
 refine call_list_range (I.ok.hd hc) e (small_one h1 h2 h3 h4) hsz (Nat.le_trans hz (by decide)) fun h' tk acc c' hk hS hacc => ?_
 refine ⟨.ref s.heap.objs.size, _, I.laid hk (Nat.le_refl _) (show ObjOk X.prog X.w _ h' _ (.lst _) from ⟨?_, acc.toList, c', ?_, ?_⟩), rfl, q _ I.fresh⟩
 ·rw [List.length_map, List.length_range]; exact line1000 hz
 ·have hlen : acc.toList.length = n := by rw [Array.length_toList]; exact hacc.1
  have key : ∀ (m : Nat) (l : List Value) (o : Nat), l.length = m -> (∀ k v, l[k]? = some v -> ∃ t, v = Value.int (i + ((o + k : Nat) : Int)) t) -> Vals ((List.range' o m).map fun k => V.int (i + (k : Nat))) l := by
   intro m
   induction m with
   | zero => intro l o hl _; rw [List.eq_nil_of_length_eq_zero hl]; exact .nil
   | succ m ih =>
    intro l o hl hv
    match l, hl with
    | v :: l, hl =>
     rw [List.range'_succ, List.map_cons]
     refine .cons ?_ (ih l (o + 1) (by simpa using hl) fun k w hw => ?_)
     ·obtain ⟨t, ht⟩ := hv 0 v rfl
      exact ⟨t, by simpa using ht⟩
     ·obtain ⟨t, ht⟩ := hv (k + 1) w (by simpa using hw)
      refine ⟨t, ?_⟩
      rw [ht]
      congr 2
      omega
  rw [List.range_eq_range']
  refine key n acc.toList 0 hlen fun k v hv => ?_
  obtain ⟨t, ht⟩ := hacc.2 k v (by rw [<- Array.getElem?_toList]; exact hv)
  refine ⟨t, ?_⟩
  rw [ht]
  congr 1
 ·rw [hS]
end
end L2
end
section
namespace L2
open PySem PySem.Spec PyProof.Rows
open PySem.AutoSeq1 (wpAny_loadPart')
open PySem.MeetsSeq PySem.SeqAt
theorem remove_loopAt (l : Addr) (items : Array Value) (n : Nat) (x : Value) (j : Nat) (hj : j < items.size) (hs1 : items.size <= sizeLine) (k : Nat) :
  ∀ i : Nat, j - i = k -> i <= j -> Meets (Builtin.«list.remove.loop» ⟨[.ref l, x, rawInt i], []⟩)
   (fun A R s => s.heap.get? l = some { cls := .type "list", dict := none, data := .seq items n, slots := #[] } /\ (∀ m (hm : m < items.size), m < j -> EqAt A.in1 s items[m] x false) /\ EqAt A.in1 s items[j] x true /\
    R (.ok (.ret .none)) { s with heap := s.heap.update l (Obj.mapSeq fun xs => xs.eraseIdxIfInBounds j) }) := by
 induction k with
 | zero =>
  intro i hk hij prog w A R s h
  obtain ⟨hp, g, d, tk, os⟩ := s; obtain ⟨hl, hno, hit, h⟩ := h
  have hij' : i = j := by omega
  subst hij'
  wp_walk using wpAny_loadPart' hl
  have hi : items[((i : Nat) : Int).toNat]? = some items[i] := by simp [hj]
  rw [hi]
  refine wpAny_bind (hit prog w _ _ ?_)
  have hz' : (items.eraseIdxIfInBounds i).size <= sizeLine + 1 := Nat.le_trans (size_erased items _) (Nat.le_succ_of_le hs1)
  wp_walk using (wpAny_updateSeq hl rfl (hz := hs1) (_hz' := hz')), wpAny_loadPart' hl
  simpa using h
 | succ k ih =>
  intro i hk hij prog w A R s h
  obtain ⟨hp, g, d, tk, os⟩ := s; obtain ⟨hl, hno, hit, h⟩ := h
  have hlt : i < items.size := by omega
  wp_walk using wpAny_loadPart' hl
  have hi : items[((i : Nat) : Int).toNat]? = some items[i] := by simp [hlt]
  have hc : ((i : Int) + 1) = ((i + 1 : Nat) : Int) := by push_cast; rfl
  rw [hi]
  refine wpAny_bind (hno i hlt (by omega) prog w _ _ ?_)
  wp_walk
  rw [hc]
  exact ⟨plainId_quiet plain_remove_loop _, codeAny_builtin entry_remove_loop (by
   rw [Around.under_plainId plain_remove_loop _]
   exact ih (i + 1) (by omega) (by omega) prog w A R _ ⟨hl, hno, hit, h⟩)⟩
theorem list_removeAt (l : Addr) (items : Array Value) (n : Nat) (x : Value) (j : Nat) (hj : j < items.size) (hs1 : items.size <= sizeLine) :
  Meets (Builtin.«list.remove» ⟨[.ref l, x], []⟩)
   (fun A R s => s.heap.get? l = some { cls := .type "list", dict := none, data := .seq items n, slots := #[] } /\ (∀ m (hm : m < items.size), m < j -> EqAt A.in1 s items[m] x false) /\ EqAt A.in1 s items[j] x true /\
    R (.ok (.ret .none)) { s with heap := s.heap.update l (Obj.mapSeq fun xs => xs.eraseIdxIfInBounds j) }) := by
 intro prog w A R s h
 obtain ⟨hp, g, d, tk, os⟩ := s; obtain ⟨hl, h⟩ := h
 wp_walk using wpAny_loadPart' hl
 exact ⟨plainId_quiet plain_remove_loop _, codeAny_builtin entry_remove_loop (by
  rw [Around.under_plainId plain_remove_loop _]
  exact remove_loopAt l items n x j hj hs1 _ 0 rfl (Nat.zero_le _) prog w A R _ ⟨hl, h⟩)⟩
section
variable {prog : Program} {w : World} {A : Around} {E : Value -> Shared -> Prop} {s : Shared} {K : PySem.W.Frag} {x y C : Addr} {ox oy : Obj} {odx ody : Option Obj}
structure EqCls (K : PySem.W.Frag) (C : Addr) : Prop where
 eq : PySem.W.findIn K (.ref C) "__eq__" = some (some (.builtin "object.__eq__"))
 ob : PySem.W.mroIn K C (.type "object") = some true
theorem try_other {Q : Option Value -> Shared -> Prop} (X : K.In s.heap) (Ix : PySem.W.InstAt s.heap x ox C odx) (hy : s.heap.get? y = some oy) (e : EqCls K C) (hxy : x ≠ y) (hq : Q none s) : wpAny (model prog w) A (tryCompare (.ref x) "__eq__" (.ref y)) Q E s := by
 simp only [tryCompare]
 refine wpAny_bind ?_
 simp only [callSpecialIfBound?, bindSpecialIfBound?]
 refine wpAny_holding (wpAny_bind (wpAny_bind (wpAny_bind (Ix.type.here ((PySem.W.looks_findIn X e.eq).here ?_)))))
 refine wpAny_bind (wpAny_askSetting (wpAny_ite ?_))
 have fin : wpAny (model prog w) A (call (.builtin "object.__eq__") ([.ref x] ++ [.ref y]) >>= fun v => pure (some v)) (fun v s' => wpAny (model prog w) A (match v with | some .notImplemented | none => pure none | some v => pure (some v)) Q E s') E s := by
  refine wpAny_bind (wpAny_call (codeAny_call_builtin PySem.F.cmp_object.eq.plain PySem.F.cmpEntry_eq (PySem.W.check_slot (i := "object.__eq__") (owner := "object") (n := "__eq__") PySem.F.cmpKind_eq PySem.F.cmpSplit_eq (Ix.type.andThen (PySem.W.looks_mroIn X e.ob)) (PySem.F.cmpArgs_eq _ _) ?_)))
  refine objEq_entry_other hxy Ix.at_ hy (by rw [Ix.cls]; intro z; cases z) ?_
  exact wpAny_pure (wpAny_pure hq)
 split
 ·exact wpAny_bind ((PySem.W.Looks.of_pure (PySem.F.cmp_object.eq.bind _)).here (wpAny_pure (by exact fin)))
 ·exact wpAny_tryCatch (wpAny_bind ((PySem.W.Looks.of_pure (PySem.F.cmp_object.eq.bind _)).here (wpAny_pure (by exact fin))))
theorem rich_other {Q : Value -> Shared -> Prop} (X : K.In s.heap) (Ix : PySem.W.InstAt s.heap x ox C odx) (Iy : PySem.W.InstAt s.heap y oy C ody) (e : EqCls K C) (hxy : x ≠ y) (hu : A.units < cLine) (hq : Q (.bool false) s) : wpAny (model prog w) A (richCompare .Eq (.ref x) (.ref y)) Q E s := by
 obtain ⟨h, g, d, t, os⟩ := s
 simp only [richCompare, cmpInfo_Eq, oneThing_ref]
 have hnt : ox.cls ≠ .type "tuple" := by rw [Ix.cls]; intro z; cases z
 have hcc : (Value.ref C != Value.ref C) = false := by simp
 repeat (first | with_reducible refine wpAny_cRoomFor hu ?_ | (with_reducible refine wpAny_loadPart_at Ix.at_ ?_; rw [Ix.cls]) | (with_reducible refine wpAny_loadPart_at Iy.at_ ?_; rw [Iy.cls]) | (rw [hcc, if_neg Bool.false_ne_true]) | with_reducible refine try_other (K := K) X Ix Iy.at_ e hxy ?_ | with_reducible refine try_other (K := K) X Iy Ix.at_ e hxy.symm ?_ | with_reducible refine wpAny_isSame_ref_other hxy Ix.at_ Iy.at_ hnt ?_ | wp_step)
 exact hq
theorem eq_other {Q : Bool -> Shared -> Prop} (X : K.In s.heap) (Ix : PySem.W.InstAt s.heap x ox C odx) (Iy : PySem.W.InstAt s.heap y oy C ody) (e : EqCls K C) (hxy : x ≠ y) (hu : A.units < cLine) (hq : Q false s) : wpAny (model prog w) A (eqBool (.ref x) (.ref y)) Q E s := by
 unfold eqBool
 refine wpAny_holding ?_
 rw [if_neg (by simpa using hxy)]
 refine wpAny_bind (rich_other X Ix Iy e hxy hu ?_)
 wp_walk
 exact hq
theorem eq_same {Q : Bool -> Shared -> Prop} {v : Value} (hq : Q true s) : wpAny (model prog w) A (eqBool v v) Q E s := by
 unfold eqBool
 refine wpAny_holding ?_
 rw [if_pos (by simp)]
 exact wpAny_bind (wpAny_rule (wpAny_pure hq))
end
section
variable {X : Cx}
theorem Inv.inst {pins : List (Addr × Obj)} {σ : St} {H : Hp} {s : Shared} (I : Inv X pins σ H s) {a C dx : Addr} {fs : List (Str × V)} (e : H a = some (.ins C dx fs)) : ∃ od, PySem.W.InstAt s.heap a (PySem.W.instObj C dx) C (some od) := by
 obtain ⟨mA, O, _⟩ := ins_get I.hok e
 obtain ⟨od, J, _⟩ := O.look
 exact ⟨od, J⟩
def rRemI (C : Addr) : V -> List V -> Hp -> VK -> Prop := fun x vs H Q => ∃ l xs y j, x = .ref l /\ vs = [.ref y] /\ H l = some (.lst xs) /\ (∀ v ∈ xs, ∃ a dx fs, v = .ref a /\ H a = some (.ins C dx fs)) /\ xs[j]? = some (.ref y) /\ (∀ m, m < j -> xs[m]? ≠ some (.ref y)) /\ Q .non (upd H l (.lst (xs.eraseIdx j)))
theorem mt_removeI {C : Addr} (e : EqCls X.K C) (hr : Room 0 X.A) : MtM X "list.remove" (rRemI C) := by
 intro pins s σ H x vs v us Q I rx rv h
 obtain ⟨l, xs, y, j, rfl, rfl, hH, hin, hj, hno, q⟩ := h
 cases rx
 obtain ⟨u, rfl, ru⟩ := rv.one
 cases ru
 obtain ⟨z, its, n, r, hl, el⟩ := I.lstM hH
 obtain ⟨w, hw, rw'⟩ := r.get hj
 cases rw'
 have hjl : j < its.length := (List.getElem?_eq_some_iff.mp hw).1
 have hu : X.A.in1.units < cLine := by have := hr.un; show X.A.units + 1 < cLine; omega
 refine call_meets PySem.F.slot_list_remove ⟨_, el, rfl⟩ PySem.F.entry_list_remove (PySem.F.args_list_remove_2 _ _) (list_removeAt l its.toArray n (.ref y) j (by rw [List.size_toArray]; exact hjl) (by rw [List.size_toArray]; omega)) ⟨el, fun m hm hmj => ?_, ?_, ?_⟩
 ·obtain ⟨vm, hvm⟩ : ∃ vm, xs[m]? = some vm := ⟨_, List.getElem?_eq_getElem (by rw [List.size_toArray] at hm; omega)⟩
  obtain ⟨um, hum, rum⟩ := r.get hvm
  obtain ⟨a, dx, fs, rfl, ea⟩ := hin vm (List.mem_of_getElem? hvm)
  cases rum
  obtain ⟨dy, fy, ey⟩ : ∃ dx fs, H y = some (.ins C dx fs) := by
   obtain ⟨b, dx, fs, eb, h⟩ := hin _ (List.mem_of_getElem? hj)
   cases eb
   exact ⟨dx, fs, h⟩
  have nay : a ≠ y := fun z => hno m hmj (by rw [hvm, z])
  obtain ⟨o1, J1⟩ := I.inst ea
  obtain ⟨o2, J2⟩ := I.inst ey
  have em : its.toArray[m] = Value.ref a := by
   have := (List.getElem?_eq_some_iff.mp hum).2
   rw [List.getElem_toArray]; exact this
  rw [em]
  exact fun prog w E Q hq => eq_other I.kIn J1 J2 e nay hu hq
 ·have em : its.toArray[j] = Value.ref y := by
   have := (List.getElem?_eq_some_iff.mp hw).2
   rw [List.getElem_toArray]; exact this
  rw [em]
  exact fun prog w E Q hq => eq_same hq
 ·refine ⟨.non, _, I.lset (its' := its.eraseIdx j) hH el ?_ (r.eraseIdx j) ?_, rfl, q⟩
  ·show its.toArray.eraseIdxIfInBounds j = (its.eraseIdx j).toArray
   rw [List.eraseIdxIfInBounds_toArray]
  ·have := len_erase xs j
   omega
def rRemN : V -> List V -> Hp -> VK -> Prop := fun x vs H Q => ∃ (l : Addr) (ns : List Int) (i : Int), x = .ref l /\ vs = [.int i] /\ H l = some (.lst (ns.map V.int)) /\ i ∈ ns /\ Q .non (upd H l (.lst ((ns.erase i).map V.int)))
theorem erase_at (i : Int) : ∀ {ns : List Int}, i ∈ ns -> ∃ j, ns[j]? = some i /\ (∀ m, m < j -> ns[m]? ≠ some i) /\ ns.erase i = ns.eraseIdx j
 | [], h => (List.not_mem_nil h).elim
 | a :: r, h => by
  by_cases e : a = i
  ·subst e
   exact ⟨0, rfl, fun m hm => (Nat.not_lt_zero _ hm).elim, by simp⟩
  ·have : i ∈ r := (List.mem_cons.mp h).resolve_left fun z => e z.symm
   obtain ⟨j, h1, h2, h3⟩ := erase_at i this
   refine ⟨j + 1, by simpa using h1, fun m hm => ?_, ?_⟩
   ·cases m with
    | zero => simpa using e
    | succ m => simpa using h2 m (by omega)
   ·rw [List.erase_cons_tail (by simpa using e), h3]; rfl
theorem erase_map {α β : Type} (f : α -> β) : ∀ (l : List α) (j : Nat), (l.eraseIdx j).map f = (l.map f).eraseIdx j
 | [], _ => rfl
 | _ :: _, 0 => rfl
 | a :: r, j + 1 => by
  show f a :: (r.eraseIdx j).map f = f a :: (r.map f).eraseIdx j
  rw [erase_map f r j]
theorem mt_removeN : MtM X "list.remove" rRemN := by
 intro pins s σ H x vs v us Q I rx rv h
 obtain ⟨l, ns, i, rfl, rfl, hH, hi, q⟩ := h
 cases rx
 obtain ⟨u, rfl, ru⟩ := rv.one
 obtain ⟨t, rfl⟩ := ru
 obtain ⟨z, its, n, r, hl, el⟩ := I.lstM hH
 obtain ⟨j, h1, h2, h3⟩ := erase_at i hi
 obtain ⟨w, hw, rw'⟩ := r.get (i := j) (x := .int i) (by rw [List.getElem?_map, h1]; rfl)
 obtain ⟨t', rfl⟩ := rw'
 have hjl : j < its.length := (List.getElem?_eq_some_iff.mp hw).1
 refine call_meets PySem.F.slot_list_remove ⟨_, el, rfl⟩ PySem.F.entry_list_remove (PySem.F.args_list_remove_2 _ _) (list_removeAt l its.toArray n (.int i t) j (by rw [List.size_toArray]; exact hjl) (by rw [List.size_toArray]; omega)) ⟨el, fun m hm hmj => ?_, ?_, ?_⟩
 ·obtain ⟨a, ha⟩ : ∃ a, ns[m]? = some a := ⟨_, List.getElem?_eq_getElem (by rw [List.size_toArray] at hm; rw [List.length_map] at hl; omega)⟩
  obtain ⟨um, hum, rum⟩ := r.get (i := m) (x := .int a) (by rw [List.getElem?_map, ha]; rfl)
  obtain ⟨tm, rfl⟩ := rum
  have em : its.toArray[m] = Value.int a tm := by
   have := (List.getElem?_eq_some_iff.mp hum).2
   rw [List.getElem_toArray]; exact this
  rw [em]
  have : (a == i) = false := by
   have : a ≠ i := fun z => h2 m hmj (by rw [ha, z])
   simpa using this
  intro prog w E Q hq
  exact wpAny_eqBool_int (by rw [this]; exact hq)
 ·have em : its.toArray[j] = Value.int i t' := by
   have := (List.getElem?_eq_some_iff.mp hw).2
   rw [List.getElem_toArray]; exact this
  rw [em]
  intro prog w E Q hq
  exact wpAny_eqBool_int (by rw [beq_self_eq_true]; exact hq)
 ·refine ⟨.non, _, I.lset (its' := its.eraseIdx j) (ys := (ns.erase i).map V.int) hH el ?_ ?_ ?_, rfl, q⟩
  ·show its.toArray.eraseIdxIfInBounds j = (its.eraseIdx j).toArray
   rw [List.eraseIdxIfInBounds_toArray]
  ·rw [h3, erase_map]
   exact r.eraseIdx j
  ·rw [h3, erase_map]
   have := len_erase (ns.map V.int) j
   omega
end
end L2
end
section
namespace L2
open PySem PySem.Spec PyProof.Rows
theorem args_max_d (a d : Value) : argsOk "max" ⟨[a], [(Str.ofString "default", d)]⟩ := by unfold argsOk; kernel_rfl
section
variable {prog : Program} {w : World} {A : Around} {R : Result -> Shared -> Prop} {I : Addr} {fp wr : List Addr} {n : Nat} {P : Nat -> Value -> Prop} {St : Nat -> Heap -> Prop} {kw : List (Str × Value)}
theorem maxD_loop (W : Walks prog w A.in1 I fp wr n P St) (bt : Nat -> Nat -> Bool) (hcmp : CmpOf prog w A.in1 .Gt P bt) (S : Addr) (hSf : S ∉ fp) :
  ∀ (k j : Nat) (s : Shared) (vb : Value) (c : Nat), n - (j + 1) = k -> j + 1 <= n -> St (j + 1) s.heap -> P (argBest bt j) vb -> s.heap.get? S = some (seqObj "list" #[vb, vb] c) ->
  (∀ v h' tk, P (argBest bt (n - 1)) v -> (∀ b o, b ∉ wr -> b ≠ S -> s.heap.get? b = some o -> h'.get? b = some o) -> R (.ok (.ret v)) { s with heap := h', toks := tk }) ->
  codeAny (model prog w) A (.builtin "max.loop" ⟨[.ref I, .none, .ref S], kw⟩) R s
 | k, j, s, vb, c, hk, hj, hst, hPb, hS, hR => by
  have hSw : S ∉ wr := fun h => hSf (W.sub _ h)
  have hname : (toString "max" ++ toString ".loop" : String) = "max.loop" := by decide
  have hS : s.heap.get? S = some { cls := .type "list", dict := none, data := .seq #[vb, vb] c, slots := #[] } := hS
  refine codeAny_builtin PySem.F.entry_max_loop ?_
  rw [Around.under_plainId PySem.F.plain_max_loop _]
  show wpAny _ A.in1 (seqItems? (.ref S) >>= _) _ _ s
  refine wpAny_bind (wpAny_seqItems hS rfl ?_)
  show wpAny _ A.in1 (tryCatch (pyNext (.ref I)) _ >>= _) _ _ s
  by_cases hlt : j + 1 < n
  ·obtain ⟨k', rfl⟩ : ∃ k', k = k' + 1 := ⟨k - 1, by omega⟩
   refine wpAny_bind (wpAny_tryCatch (W.item (j + 1) s _ _ hlt hst fun v h' tk hP hst' hk' => ?_))
   have hS1 := hk' S _ hSw hS
   show wpAny _ A.in1 (tryCatch (holding [v, v] (richCompare .Gt v vb >>= _)) _ >>= _) _ _ _
   refine wpAny_bind (wpAny_tryCatch (wpAny_holding (wpAny_bind (hcmp (j + 1) (argBest bt j) v vb _ _ _ hP hPb ?_))))
   refine wpAny_bind (wpAny_holding (wpAny_truthy_bool (wpAny_bind (wpAny_letGo (wpAny_pure ?_)))))
   cases hb : bt (j + 1) (argBest bt j) with
   | true =>
    rw [if_pos rfl]
    refine wpAny_bind (wpAny_updateSeq hS1 rfl (wpAny_bind (wpAny_letGo ?_)))
    rw [hname]
    refine wpAny_pure ⟨plainId_quiet PySem.F.plain_max_loop _, maxD_loop W bt hcmp S hSf k' (j + 1) _ v _ (by omega) hlt (W.frame _ _ _ hst' fun b hbf o e => ?_) (by unfold argBest; rw [hb]; exact hP) (Heap.get?_update_self _ hS1 rfl) fun v' h2 tk2 hP' hk2 => ?_⟩
    ·rw [Heap.get?_update_other _ _ (fun h : S = b => hSf (by rw [h]; exact hbf))]; exact e
    ·refine hR v' h2 tk2 hP' fun b o hbw hbS e => hk2 b o hbw hbS ?_
     rw [Heap.get?_update_other _ _ (Ne.symm hbS)]
     exact hk' b o hbw e
   | false =>
    rw [if_neg Bool.false_ne_true]
    refine wpAny_bind (wpAny_letGo ?_)
    rw [hname]
    refine wpAny_pure ⟨plainId_quiet PySem.F.plain_max_loop _, maxD_loop W bt hcmp S hSf k' (j + 1) _ vb c (by omega) hlt hst' (by unfold argBest; rw [hb]; exact hPb) hS1 fun v' h2 tk2 hP' hk2 => hR v' h2 tk2 hP' fun b o hbw hbS e => hk2 b o hbw hbS (hk' b o hbw e)⟩
  ·have hin : j + 1 = n := by omega
   refine wpAny_bind (wpAny_tryCatch (W.done s _ _ (hin ▸ hst) fun h' tk hk' => ?_))
   have hS1 := hk' S _ hSw hS
   show wpAny _ A.in1 (updateSeq S (fun _ => #[]) >>= _) _ _ _
   refine wpAny_bind (wpAny_updateSeq hS1 rfl (wpAny_bind (wpAny_letGo (wpAny_pure ?_))))
   refine hR vb _ tk (by rw [<- hin]; exact hPb) fun b o hbw hbS e => ?_
   rw [Heap.get?_update_other _ _ (Ne.symm hbS)]
   exact hk' b o hbw e
termination_by k => k
end
section
variable {X : Cx}
def rMaxD : List V -> List V -> Hp -> VK -> Prop := fun xs zs H Q => ∃ (a : Addr) (ns : List Int) (d : V), xs = [V.ref a] /\ zs = [d] /\ H a = some (.lst (ns.map V.int)) /\ (ns = [] -> Q d H) /\ ∀ m, m ∈ ns -> (∀ y ∈ ns, y <= m) -> Q (.int m) H
theorem cr_maxD (hc : X.calm = true) : CallKR X "max" ["default"] rMaxD := by
 intro pins s σ H xs us zs ws Q I r rz h
 obtain ⟨l, ns, d, rfl, rfl, hl, q0, q1⟩ := h
 obtain ⟨u, rfl, ru⟩ := r.one
 obtain ⟨wd, rfl, rd⟩ := rz.one
 cases ru
 have hh : X.A.handled = none := I.ok.hd hc
 have hname : (toString "max" ++ toString ".loop" : String) = "max.loop" := by decide
 obtain ⟨its, rv, pl, _⟩ := I.list (SqL.of (K := X.K) hl)
 have hi := rv.ints
 obtain ⟨ps, e⟩ := hi.allInts.items
 have hn : numsOf (intItems ps).toList = ns := by rw [<- e]; exact hi.numsOf
 rw [nums_intItems] at hn
 have hll : s.heap.IsList l (intItems ps) := by rw [<- e]; exact pl.isList
 show wpAny _ _ (call (.builtin "max") [.ref l] [(Str.ofString "default", wd)]) _ _ _
 refine kmk_tree PySem.F.kind_max PySem.F.plain_max PySem.F.entry_max (args_max_d _ _) ?_
 show wpAny _ X.A.in1 (Builtin.Builtins.bindParams "max" ["key", "default"] 0 ⟨[], [(Str.ofString "default", wd)]⟩ >>= _) _ _ s
 refine wpAny_bind (wpAny_of_eq (show Builtin.Builtins.bindParams "max" ["key", "default"] 0 ⟨[], [(Str.ofString "default", wd)]⟩ = pure [none, some wd] from rfl) ?_)
 refine wpAny_bind (wpAny_pure ?_)
 refine wpAny_bind (iter_intList hll fun s2 es st hfp hlI => ?_)
 subst es
 refine wpAny_bind (wpAny_newList ?_ (Nat.zero_le _))
 rw [hname]
 have W := Walks.list (prog := X.prog) (w := X.w) (A := X.A.in1) hh s.heap.objs.size l hlI (intItems ps)
 have hsz : (intItems ps).size = ps.size := by simp [intItems]
 have hSf : (s.heap.push { cls := .type "list_iterator", data := .fields #[.ref l, .int 0 0] }).objs.size ∉ [s.heap.objs.size, l] := fun hm => Nat.lt_irrefl _ (hfp _ hm)
 have gS : ((s.heap.push { cls := .type "list_iterator", data := .fields #[.ref l, .int 0 0] }).push (seqObj "list" #[] 0)).get? (s.heap.push { cls := .type "list_iterator", data := .fields #[.ref l, .int 0 0] }).objs.size = some (seqObj "list" #[] 0) := Heap.get?_push_size _ rfl
 have st0 := W.frame 0 _ ((s.heap.push { cls := .type "list_iterator", data := .fields #[.ref l, .int 0 0] }).push (seqObj "list" #[] 0)) st fun b _ o e => Heap.get?_push_of_some _ e
 have I2 : ∀ h' tk, (∀ b o, b ∉ [s.heap.objs.size] -> b ≠ (s.heap.push { cls := .type "list_iterator", data := .fields #[.ref l, .int 0 0] }).objs.size -> ((s.heap.push { cls := .type "list_iterator", data := .fields #[.ref l, .int 0 0] }).push (seqObj "list" #[] 0)).get? b = some o -> h'.get? b = some o) -> Inv X pins σ H { s with heap := h', toks := tk } := fun h' tk hk => I.kept fun b o e => by
  have hb := Heap.lt_size e
  refine hk b o (fun z => ?_) (fun z => ?_) (Heap.get?_push_of_some _ (Heap.get?_push_of_some _ e))
  ·rw [List.mem_singleton.mp z] at hb; exact Nat.lt_irrefl _ hb
  ·rw [z, size_push'] at hb; exact Nat.lt_irrefl _ (Nat.lt_of_succ_lt hb)
 generalize (s.heap.push { cls := .type "list_iterator", data := .fields #[.ref l, .int 0 0] }).objs.size = S at hSf gS I2 ⊢
 have hSw : S ∉ [s.heap.objs.size] := fun z => hSf (by rw [List.mem_singleton.mp z]; exact List.mem_cons_self)
 refine wpAny_pure ⟨plainId_quiet PySem.F.plain_max_loop _, ?_⟩
 refine codeAny_builtin PySem.F.entry_max_loop ?_
 rw [Around.under_plainId PySem.F.plain_max_loop _]
 show wpAny _ X.A.in1 (seqItems? (.ref S) >>= _) _ _ _
 refine wpAny_bind (wpAny_seqItems gS rfl ?_)
 show wpAny _ X.A.in1 (tryCatch (pyNext (.ref s.heap.objs.size)) _ >>= _) _ _ _
 by_cases hne : 0 < ps.size
 ·refine wpAny_bind (wpAny_tryCatch (W.item 0 _ _ _ (by rw [hsz]; exact hne) st0 fun v h' tk hP hst' hk' => ?_))
  have gS' := hk' S _ hSw gS
  show wpAny _ X.A.in1 (updateSeq S (fun _ => #[v, v]) >>= _) _ _ _
  refine wpAny_bind (wpAny_updateSeq gS' rfl ?_)
  rw [hname]
  refine wpAny_pure ⟨plainId_quiet PySem.F.plain_max_loop _, maxD_loop W _ (CmpOf.ints_gt (numAt ps) (fun _ _ => intItems_at)) S hSf _ 0 _ v _ rfl (by rw [hsz]; exact hne) (W.frame _ _ _ hst' fun b hbf o e => ?_) hP (Heap.get?_update_self _ gS' rfl) fun v' h2 tk2 hP' hk2 => ?_⟩
  ·rw [Heap.get?_update_other _ _ (fun h : S = b => hSf (by rw [h]; exact hbf))]; exact e
  ·obtain ⟨t, rfl⟩ := intItems_at hP'
   rw [hsz]
   obtain ⟨b1, b2⟩ := argBest_gt (numAt ps) (ps.size - 1)
   refine ⟨.int _, H, I2 h2 tk2 fun b o hbw hbS e => hk2 b o hbw hbS ?_, ⟨_, rfl⟩, q1 _ ?_ fun a ha => ?_⟩
   ·rw [Heap.get?_update_other _ _ (Ne.symm hbS)]
    exact hk' b o hbw e
   ·rw [<- hn, numAt_eq]; exact PySem.getD_mem (by rw [List.length_map, Array.length_toList]; omega)
   ·rw [<- hn] at ha
    obtain ⟨j, hj, rfl⟩ := mem_getD ha
    rw [List.length_map, Array.length_toList] at hj
    rw [<- numAt_eq]; exact b2 j (by omega)
 ·refine wpAny_bind (wpAny_tryCatch (W.done _ _ _ (by rw [hsz, show ps.size = 0 by omega]; exact st0) fun h' tk hk' => ?_))
  show wpAny _ X.A.in1 (rule _ >>= _) _ _ _
  refine wpAny_bind (wpAny_rule (wpAny_pure ?_))
  refine ⟨d, H, I2 h' tk fun b o hbw hbS e => hk' b o hbw e, rd, q0 ?_⟩
  have : ns.length = 0 := by rw [<- hn, List.length_map, Array.length_toList]; omega
  exact List.eq_nil_of_length_eq_zero this
end
end L2
end
section
namespace L2
open PySem PySem.Spec PyProof.Rows
def tVals (td : TE) : TE := fun σ H Q => td σ H fun x H1 => ∃ d kvs, x = .ref d /\ H1 d = some (.dK kvs) /\ ∀ v, H1 v = none -> Q (.ref v) (upd H1 v (valsV v d))
section
variable {X : Cx} {e : Expr} {td : TE} {apos cpos : Pos}
theorem pe_values (he : PE X e td) (hbase : attributeBase e "values" X.env (eval e X.env) = eval e X.env := by rfl) (hline : (apos.endLine == cpos.line) = true := by rfl) : PE X (.Call (.Attribute e "values" apos) [] [] cpos) (tVals td) := by
 intro pins s σ H R I h
 refine wpAny_Call_method (T := "dict") (id := "dict.values") hbase rfl hline F.plainAttrs_dict F.slot_dict_values F.type_dict_values (thn (he pins s σ H _ I h) fun u s1 ⟨x, H1, I1, rx, d, kvs, ex, hd, q⟩ => ?_)
 subst ex
 obtain rfl : u = Value.ref d := rx
 obtain ⟨z, hdm, vs, rel, dd⟩ := dk_of I1.hok hd
 refine ⟨dd.typeIs, dd.mapOf.noDict, ?_⟩
 have hf : H1 s1.heap.objs.size = none := I1.hok.fresh (Nat.le_refl _)
 have fin : EP X pins σ R (.ref s1.heap.objs.size) { s1 with heap := s1.heap.push { cls := .type "dict_values", data := .fields #[.ref d] } } := by
  refine ⟨.ref s1.heap.objs.size, upd H1 s1.heap.objs.size (valsV s1.heap.objs.size d), I1.laid (t' := s1.toks) (fun b u e => Heap.get?_push_of_some _ e) (Nat.le_refl _) ?_, rfl, q _ hf⟩
  exact ⟨Heap.get?_push_size _ rfl, ⟨_, Heap.get?_push_size _ rfl⟩, fun h1 h2 a b => b _ a⟩
 show wpAny _ _ (callWith cpos (.builtin "dict.values") [.ref d] [] []) _ X.xe s1
 exact method_meetsIn F.slot_dict_values F.entry_dict_values rfl (PySem.evalArgs_none ⟨rfl, dd.typeIs, F.args_dict_values_1 _, _, meets_dict_values (mixKind X.prog X.w) d hdm, ⟨vs, dd⟩, fin⟩)
end
end L2
end
section
namespace L2
open PySem PySem.Spec PyProof.Rows
theorem for_zip {K : PySem.W.Frag} {a b : Addr} {xs ys : List V} {g : TG} {tb : TS} {D : Ends} {σ : St} {H : Hp} (Pv : Nat -> St -> Hp -> Prop) (hn : xs.length = ys.length) (h0 : Pv 0 σ H) (hl : ∀ i σ H, i <= xs.length -> Pv i σ H -> SqL K H a xs /\ SqL K H b ys)
  (hs : ∀ i x y σ H t, xs[i]? = some x -> ys[i]? = some y -> Pv i σ H -> H t = none -> g (.ref t) σ (upd H t (.tup [x, y])) fun σ2 H2 => tb { D with nx := Pv (i + 1), ct := Pv (i + 1), bk := D.nx } σ2 H2) (hd : ∀ σ H, Pv xs.length σ H -> D.nx σ H) :
  ∃ W : Nat -> Nat -> St -> Hp -> Prop, (∃ m, W 0 m σ H) /\ ∀ i m σ H, W i m σ H ->
   ((Itz K a b).stop i H /\ D.nx σ H) \/ ((Itz K a b).go i H /\ ∃ N : St -> Hp -> Prop, (∀ σ' H', N σ' H' -> ∃ m', m' < m /\ W (i + 1) m' σ' H') /\ ∀ x H', (Itz K a b).yld i H x H' -> g x σ H' fun σ2 H2 => tb { D with nx := N, ct := N, bk := D.nx } σ2 H2) := by
 refine ⟨fun i m σ H => m = xs.length - i /\ i <= xs.length /\ Pv i σ H, ⟨xs.length, by simp, Nat.zero_le _, h0⟩, ?_⟩
 rintro i m σ H ⟨rfl, hi, p⟩
 obtain ⟨q1, q2⟩ := hl i σ H hi p
 by_cases hlt : i < xs.length
 ·have hlt2 : i < ys.length := by omega
  refine .inr ⟨⟨xs, ys, _, _, q1, q2, List.getElem?_eq_getElem hlt, List.getElem?_eq_getElem hlt2⟩, Pv (i + 1), fun σ' H' p' => ⟨xs.length - (i + 1), by omega, rfl, hlt, p'⟩, fun x H' y => ?_⟩
  obtain ⟨t, u, v, rfl, ht, rfl, h1, h2⟩ := y
  exact hs i u v σ H t (h1 xs q1) (h2 ys q2) p ht
 ·have e : i = xs.length := by omega
  subst e
  exact .inl ⟨⟨xs, ys, q1, q2, .inl (Nat.le_refl _)⟩, hd σ H p⟩
end L2
end
section
namespace L2
open PySem PySem.Spec PyProof.Rows
theorem lc_zip {K : PySem.W.Frag} {a b : Addr} {α β : Type} {xs : List α} {ys : List β} {enc : α -> V} {enc' : β -> V} {f : α -> β -> V} {g : TG} {tt : TT} {te : TE} {vs : List Nat} {σ : St} {H1 : Hp} {D : Addr} {Qd : Hp -> Prop}
  (hn : xs.length = ys.length) (ha : ∀ H, Same H1 H -> SqL K H a (xs.map enc)) (hb : ∀ H, Same H1 H -> SqL K H b (ys.map enc')) (hD : H1 D = none) (hz : xs.length <= 1000)
  (hs : ∀ (i : Nat) x y T H (N : Hp -> Prop) (acc : List V), xs[i]? = some x -> ys[i]? = some y -> Same H1 H -> H T = none -> H D = some (.lst acc) -> acc.length < 1000 ->
   (∀ H', Same H1 H' -> H' D = some (.lst (acc ++ [f x y])) -> N H') ->
   g (.ref T) (wipe σ vs) (upd H T (.tup [enc x, enc' y])) fun σ2 H2 => wipe σ2 vs = wipe σ vs /\ tt σ2 H2 fun b H3 => if b = true then te σ2 H3 fun y H4 => ∃ acc', H4 D = some (.lst acc') /\ acc'.length < sizeLine /\ N (upd H4 D (.lst (acc' ++ [y]))) else N H3)
  (hd : ∀ H, Same H1 H -> H D = some (.lst ((xs.zip ys).map fun z => f z.1 z.2)) -> Qd H) :
  ∃ W : Nat -> Nat -> Hp -> Prop, (∃ m, W 0 m (upd H1 D (.lst []))) /\ ∀ i m H, W i m H ->
   ((Itz K a b).stop i H /\ Qd H) \/ ((Itz K a b).go i H /\ ∃ Nx : Hp -> Prop, (∀ H', Nx H' -> ∃ m', m' < m /\ W (i + 1) m' H') /\ ∀ x H', (Itz K a b).yld i H x H' -> g x (wipe σ vs) H' fun σ2 H2 => wipe σ2 vs = wipe σ vs /\ tt σ2 H2 fun b H3 =>
    if b = true then te σ2 H3 fun y H4 => ∃ acc, H4 D = some (.lst acc) /\ acc.length < sizeLine /\ Nx (upd H4 D (.lst (acc ++ [y]))) else Nx H3) := by
 refine ⟨fun i m H => m = xs.length - i /\ i <= xs.length /\ Same H1 H /\ H D = some (.lst (((xs.zip ys).take i).map fun z => f z.1 z.2)), ⟨xs.length, by simp, Nat.zero_le _, Same.upd hD, uS⟩, ?_⟩
 rintro i m H ⟨rfl, hi, sm, hacc⟩
 have q1 := ha H sm
 have q2 := hb H sm
 by_cases hlt : i < xs.length
 ·have hlt2 : i < ys.length := by omega
  have e1 : xs[i]? = some xs[i] := List.getElem?_eq_getElem hlt
  have e2 : ys[i]? = some ys[i] := List.getElem?_eq_getElem hlt2
  refine .inr ⟨⟨xs.map enc, ys.map enc', enc xs[i], enc' ys[i], q1, q2, by rw [List.getElem?_map, e1]; rfl, by rw [List.getElem?_map, e2]; rfl⟩, fun H' => Same H1 H' /\ H' D = some (.lst (((xs.zip ys).take (i + 1)).map fun z => f z.1 z.2)), fun H' p' => ⟨xs.length - (i + 1), by omega, rfl, hlt, p'⟩, fun v H' yy => ?_⟩
  obtain ⟨t, u, v, rfl, ht, rfl, h1, h2⟩ := yy
  have eu : u = enc xs[i] := by
   have := h1 _ q1
   rw [List.getElem?_map, e1] at this
   exact (Option.some.inj this).symm
  have ev : v = enc' ys[i] := by
   have := h2 _ q2
   rw [List.getElem?_map, e2] at this
   exact (Option.some.inj this).symm
  subst eu ev
  refine hs i xs[i] ys[i] t H _ _ e1 e2 sm ht hacc ?_ fun H' s' h' => ⟨s', ?_⟩
  ·rw [List.length_map, List.length_take]; omega
  ·rw [h']
   have e : (xs.zip ys)[i]? = some (xs[i], ys[i]) := by
    rw [List.getElem?_eq_getElem (by rw [List.length_zip]; omega), List.getElem_zip]
   rw [List.take_add_one, e, List.map_append]
   rfl
 ·have e : i = xs.length := by omega
  subst e
  refine .inl ⟨⟨_, _, q1, q2, .inl (by rw [List.length_map]; exact Nat.le_refl _)⟩, hd H sm ?_⟩
  rw [hacc, List.take_of_length_le (by rw [List.length_zip]; omega)]
end L2
end
section
namespace L2
open PySem PySem.Spec PyProof.Rows
def dedup (ns : List Int) : List Int := ns.foldl step_dedup []
theorem firstMet_ded (ns : List Int) : firstMet (fun i => ns.getD i 0) ns.length = dedup ns := by
 unfold firstMet dedup
 congr 1
 apply List.ext_getElem?
 intro i
 rw [List.getElem?_map]
 by_cases h : i < ns.length
 ·rw [List.getElem?_range h, List.getElem?_eq_getElem h]
  show some (ns.getD i 0) = _
  rw [List.getD_eq_getElem?_getD, List.getElem?_eq_getElem h]; rfl
 ·rw [List.getElem?_eq_none (by rw [List.length_range]; omega), List.getElem?_eq_none (by omega)]; rfl
theorem ded_go : ∀ (ns acc : List Int), acc.Nodup -> (ns.foldl step_dedup acc).length <= acc.length + ns.length /\ ((ns.foldl step_dedup acc).length = acc.length + ns.length ↔ (acc ++ ns).Nodup)
 | [], acc, h => by simp [h]
 | n :: ns, acc, h => by
  rw [List.foldl_cons]
  by_cases hm : acc.any (· == n) = true
  ·have e : step_dedup acc n = acc := by unfold step_dedup; rw [if_pos hm]
   rw [e]
   obtain ⟨h1, h2⟩ := ded_go ns acc h
   refine ⟨by simp only [List.length_cons]; omega, ⟨fun z => ?_, fun z => ?_⟩⟩
   ·simp only [List.length_cons] at z; omega
   ·exfalso
    rw [List.nodup_append] at z
    obtain ⟨m, hm1, hm2⟩ := List.any_eq_true.mp hm
    exact z.2.2 m hm1 n List.mem_cons_self (by simpa using hm2)
  ·have e : step_dedup acc n = acc ++ [n] := by unfold step_dedup; rw [if_neg hm]
   rw [e]
   have hn : n ∉ acc := fun z => hm (List.any_eq_true.mpr ⟨n, z, by simp⟩)
   have hnd : (acc ++ [n]).Nodup := by
    rw [List.nodup_append]
    exact ⟨h, by simp, fun a ha b hb => by rw [List.mem_singleton.mp hb]; exact fun z => hn (z ▸ ha)⟩
   obtain ⟨h1, h2⟩ := ded_go ns (acc ++ [n]) hnd
   rw [List.length_append, List.length_singleton] at h1 h2
   refine ⟨by simp only [List.length_cons]; omega, ?_⟩
   rw [List.append_assoc, List.singleton_append] at h2
   rw [List.length_cons, <- h2]
   omega
theorem ded_nodup (ns : List Int) : (dedup ns).length = ns.length ↔ ns.Nodup := by
 have := (ded_go ns [] List.nodup_nil).2
 unfold dedup
 simpa using this
section
variable {X : Cx}
theorem cr_set (hc : X.calm = true) : CallR X (.type "set") (fun xs H Q => ∃ (a : Addr) (ns : List Int), xs = [V.ref a] /\ SqL X.K H a (ns.map V.int) /\ ns.length <= 1000 /\ ∀ p, H p = none -> Q (.ref p) (upd H p (.set (fun k => (dedup ns).any (· == k)) (dedup ns).length))) := by
 intro pins s σ H vs us Q I r h
 obtain ⟨a, ns, rfl, hs, hz, q⟩ := h
 obtain ⟨its, rv, hl, _⟩ := I.list hs
 rw [Vals.ref1 r]
 have hi := rv.ints
 have hlen := hi.length
 refine call_set_list (ns := ns) (I.ok.hd hc) hl.isList (by simpa using hi) (by rw [List.size_toArray, hlen]; unfold scanBound; omega) fun h' tk hS hk => ?_
 have esz : its.toArray.size = ns.length := by rw [List.size_toArray, hlen]
 rw [esz, firstMet_ded] at hS
 refine ⟨.ref _, upd H s.heap.objs.size (.set (fun k => (dedup ns).any (· == k)) (dedup ns).length), I.laid (t' := tk) (fun b u e => hk b u (Heap.lt_size e) e) (Nat.le_refl _) hS, rfl, q _ (I.hok.fresh (Nat.le_refl _))⟩
theorem cr_lenS : CallR X (.builtin "len") (fun xs H Q => ∃ (a : Addr) (S : Int -> Bool) (n : Nat), xs = [V.ref a] /\ H a = some (.set S n) /\ Q (.int n) H) := by
 intro pins s σ H vs us Q I r h
 obtain ⟨a, S, n, rfl, ha, q⟩ := h
 rw [Vals.ref1 r]
 have hS : s.heap.SetOf (intKind X.prog X.w) a S n := I.hok a _ ha
 obtain ⟨o, es, ep, t, ho, hex, hd, hel, hmem, hsz, hf, hn⟩ := hS
 subst hn
 exact call_len_set ho hex hd hf (by unfold scanBound at hsz; omega) ⟨.int _, H, I.tok _, ⟨_, rfl⟩, q⟩
end
end L2
end
section
namespace L2
open PySem PySem.Spec PyProof.Rows
theorem ints_dp {K : PySem.W.Frag} {H : Hp} : ∀ ns : List Int, DpAll K H (ns.map V.int) (ns.map PyData.int)
 | [] => .nil
 | n :: ns => .cons (.int n) (ints_dp ns)
section
variable {X : Cx}
def rNeL : R2 := fun x y H Q => ∃ (a b : Addr) (ns ms : List Int), x = .ref a /\ y = .ref b /\ H a = some (.lst (ns.map V.int)) /\ H b = some (.lst (ms.map V.int)) /\ Q (.bl (!decide (ns = ms))) H
theorem op_neL (hu : X.A.units + 64 < cLine) : OpR X (compareOp .NotEq) rNeL := by
 intro pins s σ H x y v u Q I rx ry h
 obtain ⟨a, b, ns, ms, rfl, rfl, ha, hb, q⟩ := h
 refine op_neD hu pins s σ H _ _ v u Q I rx ry ⟨.list (ns.map PyData.int), .list (ms.map PyData.int), .lst (SqL.of ha) (ints_dp ns), .lst (SqL.of hb) (ints_dp ms), PySem.W.ke_shaped_ints ns, PySem.W.ke_shaped_ints ms, ?_⟩
 have e : PyData.eqv (.list (ns.map PyData.int)) (.list (ms.map PyData.int)) = decide (ns = ms) := by
  unfold PyData.eqv
  exact PySem.W.ked_eqvAll ns ms
 rw [e]
 exact q
end
end L2
end
section
namespace L2
open PySem PySem.Spec PyProof.Rows
theorem sIx_in {n d i : Nat} (h : i <= n) : HT.sIx n d (some (i : Int)) = i := by rw [HT.sIx_nat, Nat.min_eq_left h]
theorem cut_mid {pre mid post : List V} {i j : Int} (hi : i = (pre.length : Int)) (hj : j = ((pre.length + mid.length : Nat) : Int)) : cutV (pre ++ (mid ++ post)) (some i) (some j) = mid := by
 subst hi hj
 unfold cutV
 have h1 : pre.length <= (pre ++ (mid ++ post)).length := by rw [List.length_append]; omega
 have h2 : pre.length + mid.length <= (pre ++ (mid ++ post)).length := by rw [List.length_append, List.length_append]; omega
 rw [sIx_in h1, sIx_in h2, List.drop_left, Nat.add_sub_cancel_left, List.take_left]
end L2
namespace SH
open Vbahas
theorem flat_split {ks : List Call} {i : Nat} {k : Call} (hk : ks[i]? = some k) : ks.flatMap flat = (ks.take i).flatMap flat ++ (num k :: args k ++ (ks.drop (i + 1)).flatMap flat) := by
 have h := (List.getElem?_eq_some_iff.mp hk)
 obtain ⟨hi, e⟩ := h
 have : ks = ks.take i ++ k :: ks.drop (i + 1) := by
  rw [<- e, <- List.drop_eq_getElem_cons hi, List.take_append_drop]
 conv => lhs; rw [this]
 rw [List.flatMap_append, List.flatMap_cons]
 rfl
theorem flat_take {ks : List Call} {i : Nat} {k : Call} (hk : ks[i]? = some k) : (ks.take (i + 1)).flatMap flat = (ks.take i).flatMap flat ++ (num k :: args k) := by
 rw [List.take_add_one, hk, List.flatMap_append]
 show _ ++ (flat k ++ []) = _
 rw [List.append_nil]
 rfl
theorem endC_snoc : ∀ (ks : List Call) (s : State) (k : Call), endC s (ks ++ [k]) = (stepC (endC s ks) k).1
 | [], s, k => rfl
 | c :: r, s, k => endC_snoc r (stepC s c).1 k
theorem runC_snoc : ∀ (ks : List Call) (s : State) (k : Call), runC s (ks ++ [k]) = runC s ks ++ [(stepC (endC s ks) k).2]
 | [], s, k => rfl
 | c :: r, s, k => by
  show (stepC s c).2 :: runC (stepC s c).1 (r ++ [k]) = _
  rw [runC_snoc r]
  rfl
theorem told_snoc (l : List (List Int)) (a : List Int) : PyFlat.told (l ++ [a]) = PyFlat.told l ++ ((a.length : Int) :: a) := by
 unfold PyFlat.told
 rw [List.flatMap_append]
 simp
theorem endC_wf : ∀ (ks : List Call) {s : State}, Wf s -> Wf (endC s ks)
 | [], s, w => w
 | c :: r, s, w => endC_wf r (stepC_wf w c)
end SH
end
section
namespace SHP
open PySem PySem.Spec PyProof.Rows L2 SH
open Vbahas (Slot Flight State)
def sfs (x : Slot) : List (Str × V) := [("time", .int x.time), ("owner", .int (oI x.owner))]
def ffs (f : Flight) : List (Str × V) := [("number", .int f.id), ("carrier", .int f.carrier), ("planned", .int f.sched), ("ready", .int f.ready), ("weight", .int f.weight), ("exempt", .bl f.exempt), ("cancelled", .bl f.gone), ("place", .int (pI f.place))]
def hfs (la da : Addr) (g : Bool) : List (Str × V) := [("slots", .ref la), ("flights", .ref da), ("given_out", .bl g)]
def IsSl (C : Addr) (H : Hp) (a : Addr) (x : Slot) : Prop := ∃ dx, H a = some (.ins C dx (sfs x))
def IsFl (C : Addr) (H : Hp) (a : Addr) (f : Flight) : Prop := ∃ dx, H a = some (.ins C dx (ffs f))
structure Hs where
 h : Addr
 la : Addr
 da : Addr
 ss : List (Addr × Slot)
 fs : List (Addr × Flight)
 g : Bool
def Hs.sl (k : Hs) : List Slot := k.ss.map (·.2)
def Hs.fl (k : Hs) : List Flight := k.fs.map (·.2)
def Hs.foot (k : Hs) (b : Addr) : Prop := b = k.h \/ b = k.la \/ b = k.da \/ b ∈ k.ss.map (·.1) \/ b ∈ k.fs.map (·.1)
structure Cs where
 H : Addr
 S : Addr
 F : Addr
structure At (c : Cs) (H : Hp) (k : Hs) : Prop where
 hh : ∃ dx, H k.h = some (.ins c.H dx (hfs k.la k.da k.g))
 hl : H k.la = some (.lst (k.ss.map fun x => V.ref x.1))
 hd : H k.da = some (.dK (k.fs.map fun x => (Sum.inl x.2.id, V.ref x.1)))
 hs : ∀ x ∈ k.ss, IsSl c.S H x.1 x.2
 hf : ∀ x ∈ k.fs, IsFl c.F H x.1 x.2
 ns : (k.ss.map (·.1)).Nodup
 nf : (k.fs.map (·.1)).Nodup
theorem sfs_ffs (x : Slot) (f : Flight) : sfs x ≠ ffs f := by
 intro e
 have := congrArg List.length e
 simp [sfs, ffs] at this
theorem sfs_hfs (x : Slot) (la da : Addr) (g : Bool) : sfs x ≠ hfs la da g := by
 intro e
 have := congrArg List.length e
 simp [sfs, hfs] at this
theorem ffs_hfs (f : Flight) (la da : Addr) (g : Bool) : ffs f ≠ hfs la da g := by
 intro e
 have := congrArg List.length e
 simp [ffs, hfs] at this
theorem ins_ne {C D dx dy : Addr} {a b : List (Str × V)} (h : a ≠ b) : HO.ins C dx a ≠ HO.ins D dy b := fun e => by
 injection e with _ _ e
 exact h e
section
variable {c : Cs} {H H' : Hp} {k : Hs}
theorem At.same (A : At c H k) (e : Same H H') : At c H' k :=
 ⟨let ⟨d, q⟩ := A.hh; ⟨d, e _ _ q⟩, e _ _ A.hl, e _ _ A.hd, fun x hx => let ⟨d, q⟩ := A.hs x hx; ⟨d, e _ _ q⟩, fun x hx => let ⟨d, q⟩ := A.hf x hx; ⟨d, e _ _ q⟩, A.ns, A.nf⟩
theorem At.keep (A : At c H k) (e : ∀ b o, k.foot b -> H b = some o -> H' b = some o) : At c H' k :=
 ⟨let ⟨d, q⟩ := A.hh; ⟨d, e _ _ (.inl rfl) q⟩, e _ _ (.inr (.inl rfl)) A.hl, e _ _ (.inr (.inr (.inl rfl))) A.hd,
  fun x hx => let ⟨d, q⟩ := A.hs x hx; ⟨d, e _ _ (.inr (.inr (.inr (.inl (List.mem_map_of_mem hx))))) q⟩, fun x hx => let ⟨d, q⟩ := A.hf x hx; ⟨d, e _ _ (.inr (.inr (.inr (.inr (List.mem_map_of_mem hx))))) q⟩, A.ns, A.nf⟩
theorem At.there (A : At c H k) {b : Addr} (h : k.foot b) : ∃ o, H b = some o := by
 rcases h with rfl | rfl | rfl | h | h
 ·obtain ⟨d, q⟩ := A.hh; exact ⟨_, q⟩
 ·exact ⟨_, A.hl⟩
 ·exact ⟨_, A.hd⟩
 ·obtain ⟨x, hx, rfl⟩ := List.mem_map.mp h
  obtain ⟨d, q⟩ := A.hs x hx; exact ⟨_, q⟩
 ·obtain ⟨x, hx, rfl⟩ := List.mem_map.mp h
  obtain ⟨d, q⟩ := A.hf x hx; exact ⟨_, q⟩
theorem At.slot (A : At c H k) {p : Nat} {a : Addr} {x : Slot} (h : k.ss[p]? = some (a, x)) : IsSl c.S H a x := A.hs _ (List.mem_of_getElem? h)
theorem At.flight (A : At c H k) {p : Nat} {a : Addr} {f : Flight} (h : k.fs[p]? = some (a, f)) : IsFl c.F H a f := A.hf _ (List.mem_of_getElem? h)
theorem fst_ne {α : Type} {l : List (Addr × α)} (hn : (l.map (·.1)).Nodup) {i j : Nat} {x y : Addr × α} (hi : l[i]? = some x) (hj : l[j]? = some y) (h : i ≠ j) : x.1 ≠ y.1 := fun e => by
 apply h
 refine nd_ix hn (x := x.1) ?_ ?_
 ·rw [List.getElem?_map, hi]; rfl
 ·rw [List.getElem?_map, hj, e]; rfl
theorem map_fst_set {α : Type} {l : List (Addr × α)} {p : Nat} {a : Addr} {x x' : α} (h : l[p]? = some (a, x)) : (l.set p (a, x')).map (·.1) = l.map (·.1) := by
 apply List.ext_getElem?
 intro q
 rw [List.getElem?_map, List.getElem?_map, List.getElem?_set]
 by_cases e : p = q
 ·subst e
  rw [if_pos rfl, if_pos (List.getElem?_eq_some_iff.mp h).1, h]; rfl
 ·rw [if_neg e]
theorem mem_set {α : Type} {l : List (Addr × α)} (hn : (l.map (·.1)).Nodup) {p : Nat} {a : Addr} {x x' : α} (h : l[p]? = some (a, x)) {y : Addr × α} (hy : y ∈ l.set p (a, x')) : y = (a, x') \/ (y ∈ l /\ y.1 ≠ a) := by
 obtain ⟨q, hq⟩ := List.getElem?_of_mem hy
 rw [List.getElem?_set] at hq
 by_cases e : p = q
 ·subst e
  rw [if_pos rfl, if_pos (List.getElem?_eq_some_iff.mp h).1] at hq
  exact .inl (Option.some.inj hq).symm
 ·rw [if_neg e] at hq
  exact .inr ⟨List.mem_of_getElem? hq, fst_ne hn hq h (fun z => e z.symm)⟩
theorem At.setS (A : At c H k) {p : Nat} {a : Addr} {x x' : Slot} (h : k.ss[p]? = some (a, x)) (ha : IsSl c.S H' a x') (ho : ∀ b, b ≠ a -> H' b = H b) : At c H' { k with ss := k.ss.set p (a, x') } := by
 obtain ⟨da, ea⟩ := A.slot h
 obtain ⟨dh, eh⟩ := A.hh
 have n1 : k.h ≠ a := ne_of eh ea (ins_ne fun z => sfs_hfs _ _ _ _ z.symm)
 have n2 : k.la ≠ a := ne_of A.hl ea (fun z => nomatch z)
 have n3 : k.da ≠ a := ne_of A.hd ea (fun z => nomatch z)
 have em : (k.ss.set p (a, x')).map (fun y => V.ref y.1) = k.ss.map fun y => V.ref y.1 := by
  have := congrArg (List.map V.ref) (map_fst_set (x' := x') h)
  rw [List.map_map, List.map_map] at this
  exact this
 refine ⟨⟨dh, by show H' k.h = _; rw [ho _ n1]; exact eh⟩, by show H' k.la = some (.lst ((k.ss.set p (a, x')).map fun y => V.ref y.1)); rw [em, ho _ n2]; exact A.hl, by show H' k.da = _; rw [ho _ n3]; exact A.hd, fun y hy => ?_, fun y hy => ?_, by show ((k.ss.set p (a, x')).map (·.1)).Nodup; rw [map_fst_set h]; exact A.ns, A.nf⟩
 ·rcases mem_set A.ns h hy with rfl | ⟨hy, ne⟩
  ·exact ha
  ·obtain ⟨d, e⟩ := A.hs y hy
   exact ⟨d, by rw [ho _ ne]; exact e⟩
 ·obtain ⟨d, e⟩ := A.hf y hy
  exact ⟨d, by rw [ho _ (ne_of e ea (ins_ne fun z => sfs_ffs _ _ z.symm))]; exact e⟩
theorem At.setF (A : At c H k) {p : Nat} {a : Addr} {f f' : Flight} (h : k.fs[p]? = some (a, f)) (hi : f'.id = f.id) (ha : IsFl c.F H' a f') (ho : ∀ b, b ≠ a -> H' b = H b) : At c H' { k with fs := k.fs.set p (a, f') } := by
 obtain ⟨da, ea⟩ := A.flight h
 obtain ⟨dh, eh⟩ := A.hh
 have n1 : k.h ≠ a := ne_of eh ea (ins_ne fun z => ffs_hfs _ _ _ _ z.symm)
 have n2 : k.la ≠ a := ne_of A.hl ea (fun z => nomatch z)
 have n3 : k.da ≠ a := ne_of A.hd ea (fun z => nomatch z)
 have em : ((k.fs.set p (a, f')).map fun y => ((Sum.inl y.2.id : Key), V.ref y.1)) = k.fs.map fun y => (Sum.inl y.2.id, V.ref y.1) := by
  apply List.ext_getElem?
  intro q
  rw [List.getElem?_map, List.getElem?_map, List.getElem?_set]
  by_cases e : p = q
  ·subst e
   rw [if_pos rfl, if_pos (List.getElem?_eq_some_iff.mp h).1, h]
   show some ((Sum.inl f'.id : Key), V.ref a) = some (Sum.inl f.id, V.ref a)
   rw [hi]
  ·rw [if_neg e]
 refine ⟨⟨dh, by show H' k.h = _; rw [ho _ n1]; exact eh⟩, by show H' k.la = _; rw [ho _ n2]; exact A.hl, by show H' k.da = some (.dK ((k.fs.set p (a, f')).map fun y => (Sum.inl y.2.id, V.ref y.1))); rw [em, ho _ n3]; exact A.hd, fun y hy => ?_, fun y hy => ?_, A.ns, by show ((k.fs.set p (a, f')).map (·.1)).Nodup; rw [map_fst_set h]; exact A.nf⟩
 ·obtain ⟨d, e⟩ := A.hs y hy
  exact ⟨d, by rw [ho _ (ne_of e ea (ins_ne fun z => sfs_ffs _ _ z))]; exact e⟩
 ·rcases mem_set A.nf h hy with rfl | ⟨hy, ne⟩
  ·exact ha
  ·obtain ⟨d, e⟩ := A.hf y hy
   exact ⟨d, by rw [ho _ ne]; exact e⟩
theorem At.setG (A : At c H k) {g : Bool} (ha : ∃ dx, H' k.h = some (.ins c.H dx (hfs k.la k.da g))) (ho : ∀ b, b ≠ k.h -> H' b = H b) : At c H' { k with g := g } := by
 obtain ⟨dh, eh⟩ := A.hh
 have n2 : k.la ≠ k.h := ne_of A.hl eh (fun z => nomatch z)
 have n3 : k.da ≠ k.h := ne_of A.hd eh (fun z => nomatch z)
 refine ⟨ha, by show H' k.la = _; rw [ho _ n2]; exact A.hl, by show H' k.da = _; rw [ho _ n3]; exact A.hd, fun y hy => ?_, fun y hy => ?_, A.ns, A.nf⟩
 ·obtain ⟨d, e⟩ := A.hs y hy
  exact ⟨d, by rw [ho _ (ne_of e eh (ins_ne fun z => sfs_hfs _ _ _ _ z))]; exact e⟩
 ·obtain ⟨d, e⟩ := A.hf y hy
  exact ⟨d, by rw [ho _ (ne_of e eh (ins_ne fun z => ffs_hfs _ _ _ _ z))]; exact e⟩
theorem At.addS (A : At c H k) {a : Addr} {x : Slot} (hn : a ∉ k.ss.map (·.1)) (hl : H' k.la = some (.lst ((k.ss ++ [(a, x)]).map fun y => V.ref y.1))) (ha : IsSl c.S H' a x) (ho : ∀ b o, b ≠ k.la -> H b = some o -> H' b = some o) : At c H' { k with ss := k.ss ++ [(a, x)] } := by
 obtain ⟨dh, eh⟩ := A.hh
 have n1 : k.h ≠ k.la := ne_of eh A.hl (fun z => nomatch z)
 have n3 : k.da ≠ k.la := ne_of A.hd A.hl (fun z => nomatch z)
 refine ⟨⟨dh, ho _ _ n1 eh⟩, hl, ho _ _ n3 A.hd, fun y hy => ?_, fun y hy => ?_, ?_, A.nf⟩
 ·rcases List.mem_append.mp hy with hy | hy
  ·obtain ⟨d, e⟩ := A.hs y hy
   exact ⟨d, ho _ _ (ne_of e A.hl (fun z => nomatch z)) e⟩
  ·rw [List.mem_singleton.mp hy]; exact ha
 ·obtain ⟨d, e⟩ := A.hf y hy
  exact ⟨d, ho _ _ (ne_of e A.hl (fun z => nomatch z)) e⟩
 ·show ((k.ss ++ [(a, x)]).map (·.1)).Nodup
  rw [List.map_append]
  exact nd_snoc A.ns hn
theorem At.addF (A : At c H k) {a : Addr} {f : Flight} (hn : a ∉ k.fs.map (·.1)) (hd : H' k.da = some (.dK ((k.fs ++ [(a, f)]).map fun y => (Sum.inl y.2.id, V.ref y.1)))) (ha : IsFl c.F H' a f) (ho : ∀ b o, b ≠ k.da -> H b = some o -> H' b = some o) : At c H' { k with fs := k.fs ++ [(a, f)] } := by
 obtain ⟨dh, eh⟩ := A.hh
 have n1 : k.h ≠ k.da := ne_of eh A.hd (fun z => nomatch z)
 have n2 : k.la ≠ k.da := ne_of A.hl A.hd (fun z => nomatch z)
 refine ⟨⟨dh, ho _ _ n1 eh⟩, ho _ _ n2 A.hl, hd, fun y hy => ?_, fun y hy => ?_, A.ns, ?_⟩
 ·obtain ⟨d, e⟩ := A.hs y hy
  exact ⟨d, ho _ _ (ne_of e A.hd (fun z => nomatch z)) e⟩
 ·rcases List.mem_append.mp hy with hy | hy
  ·obtain ⟨d, e⟩ := A.hf y hy
   exact ⟨d, ho _ _ (ne_of e A.hd (fun z => nomatch z)) e⟩
  ·rw [List.mem_singleton.mp hy]; exact ha
 ·show ((k.fs ++ [(a, f)]).map (·.1)).Nodup
  rw [List.map_append]
  exact nd_snoc A.nf hn
theorem set_putF {l : List Flight} (hn : (l.map (·.id)).Nodup) {p : Nat} {f f' : Flight} (h : l[p]? = some f) (hi : f'.id = f.id) : l.set p f' = l.map (SH.putF f') := by
 apply List.ext_getElem?
 intro q
 rw [List.getElem?_set, List.getElem?_map]
 by_cases e : p = q
 ·subst e
  rw [if_pos rfl, if_pos (List.getElem?_eq_some_iff.mp h).1, h]
  show some f' = some (SH.putF f' f)
  rw [show SH.putF f' f = f' from if_pos hi.symm]
 ·rw [if_neg e]
  cases hq : l[q]? with
  | none => rfl
  | some g =>
   show some g = some (SH.putF f' g)
   have : g.id ≠ f'.id := fun z => e (nd_ix hn (x := f.id) (by rw [List.getElem?_map, h]; rfl) (by rw [List.getElem?_map, hq]; show some g.id = some f.id; rw [z, hi]))
   rw [show SH.putF f' g = g from if_neg this]
end
end SHP
end
section
namespace SHP
open PySem L2
def top (i : Nat) : Stmt := PySem.Challenge.pw_slothouse_s01_answers.main.body.getD i (.Pass ⟨0, 0, 0, 0⟩)
abbrev s_slot_at : Stmt := top 6
abbrev s_all_places : Stmt := top 7
abbrev s_may_have : Stmt := top 8
abbrev s_living_flights : Stmt := top 9
abbrev s_flights_of : Stmt := top 10
abbrev s_holders : Stmt := top 11
abbrev s_open_places : Stmt := top 12
abbrev s_open_places_of : Stmt := top 13
abbrev s_first_place_from : Stmt := top 14
abbrev s_take_place : Stmt := top 15
abbrev s_lateness : Stmt := top 16
abbrev s_sum_and_greatest : Stmt := top 17
abbrev s_told_lateness : Stmt := top 18
abbrev s_carrier_cost : Stmt := top 19
abbrev s_told_slot : Stmt := top 20
abbrev s_may_change : Stmt := top 35
abbrev s_change_places : Stmt := top 36
abbrev s_two_of_one_carrier : Stmt := top 37
abbrev s_swap : Stmt := top 38
abbrev s_best_order : Stmt := top 39
abbrev s_first_that_may : Stmt := top 40
abbrev s_best : Stmt := top 41
abbrev s_has_row : Stmt := top 70
abbrev s_ranges_of : Stmt := top 71
abbrev s_row_range_of : Stmt := top 72
abbrev s_all_in_range : Stmt := top 73
abbrev s_fits : Stmt := top 74
abbrev s_places_in_turn : Stmt := top 76
abbrev s_ration_order : Stmt := top 77
abbrev s_give_out : Stmt := top 78
abbrev s_ration : Stmt := top 79
abbrev s_place_of : Stmt := top 80
abbrev s_comer : Stmt := top 81
abbrev s_pass_on : Stmt := top 82
abbrev s_compress : Stmt := top 83
abbrev s_add_slots : Stmt := top 85
abbrev s_add_flight : Stmt := top 86
abbrev s_set_exempt : Stmt := top 87
abbrev s_set_ready : Stmt := top 88
abbrev s_cancel_flight : Stmt := top 89
abbrev s_tell_slot : Stmt := top 91
abbrev s_tell_table : Stmt := top 92
abbrev s_tell_carrier : Stmt := top 93
abbrev s_tell_total : Stmt := top 94
abbrev s_tell_open : Stmt := top 95
abbrev s_saved : Stmt := top 97
abbrev s_somebody_loses : Stmt := top 98
abbrev s_trade_refusal : Stmt := top 99
abbrev s_trade : Stmt := top 100
abbrev s_release : Stmt := top 101
abbrev s_living_numbers : Stmt := top 103
abbrev s_queue : Stmt := top 104
abbrev s_is_right : Stmt := top 105
abbrev s_rival : Stmt := top 106
abbrev s_answer_question : Stmt := top 108
abbrev s_answer_call : Stmt := top 109
abbrev s_answers : Stmt := top 110
abbrev s_Slot_init : Stmt := inClass (top 3) 0
abbrev s_Flight_init : Stmt := inClass (top 4) 0
abbrev s_House_init : Stmt := inClass (top 5) 0
end SHP
end
section
namespace SHP
open PySem PySem.Spec PyProof.Rows L2 SH
open Vbahas (Slot Flight State)
structure Ok (P : Program) (w : World) (K : PySem.W.Frag) (mg : Str -> Option Value) (base : Heap) (k : Nat) (x : Str) (ps : List Str) (sp : Sp) : Prop where
 ex : ∃ f fd, FnOk P w K mg base CX0 k f fd ps sp /\ mg x = some (.ref f) /\ PySem.W.keepIn K (.ref f) = true /\ Binds K fd ps []
structure DefAt (K : PySem.W.Frag) (mg : Str -> Option Value) (x : Str) (st : Stmt) (ps : List Str) : Prop where
 ex : ∃ f fd, Fun K x x st f fd /\ mg x = some (.ref f) /\ Binds K fd ps []
section
variable {P : Program} {w : World} {K : PySem.W.Frag} {mg : Str -> Option Value} {base : Heap}
theorem mkOk {x : Str} {st : Stmt} {N ps : List Str} {k : Nat} {sp : Sp} (D : DefAt K mg x st ps) (S : FSc N ps (dSc st)) (len : ∀ vs H Q E, sp vs H Q E -> vs.length = ps.length)
  (hbody : ∀ (f : Addr) (cdv : Value) (A : Around) (outer : List Env) (s : Shared) (H : Hp) (vs : List V) (Q : VK) (E : XK), Room k (A.deeper (envOfC x (dSc st) s.heap.objs.size f cdv)) -> sp vs H Q E ->
   ∃ t, PSs (cxOf CX0 P w K mg base N x (dSc st) f cdv A outer s H E).nox (dBo st) t /\ t { nx := fun _ H' => Q .non H', rt := Q } (start N vs) H) : Ok P w K mg base (k + 1) x ps sp := by
 obtain ⟨f, fd, F, hm, hb⟩ := D.ex
 exact ⟨f, fd, F.ok S len fun cdv A outer s H vs Q E hr h => hbody f cdv A outer s H vs Q E hr h, hm, F.kp, hb⟩
end
section
variable {X : Cx} {x : Str} {p pos : Pos} {e : Expr} {es : List Expr} {t : TA} {j k : Nat} {ps : List Str} {sp : Sp}
theorem pe_fn (O : Ok X.prog X.w X.K X.mg X.base k x ps sp) (hr : Room j X.A) (hg : Gl X x) (ha : PA X (e :: es) t) (hle : k <= j := by decide) (hdb : (x == ("__debug__" : Str)) = false := by decide)
  (he : starEach (e :: es) X.env = (false, eval e X.env) :: starEach es X.env := by rfl) (hpl : (backTo pos (starEach es X.env)).any (·.1) = false := by rfl) : PE X (.Call (.Name x p) (e :: es) [] pos) (tCall sp [] E0 t) := by
 obtain ⟨f, fd, F, hm, hk, hb⟩ := O.ex
 exact pe_call F (hr.mono hle) hg hm hk hb .nil pass0 ha hdb he hpl
theorem gIn {v : Int} (h : ∃ t, X.mg x = some (.int v t)) (hg : Gl X x) (hd : (x == ("__debug__" : Str)) = false := by decide) : PE X (.Name x p) (tC (.int v)) := by
 obtain ⟨t, h⟩ := h
 exact pe_glob hg h ⟨t, rfl⟩ hd
theorem pe_gref {a : Addr} (h : X.mg x = some (.ref a)) (hg : Gl X x) (hd : (x == ("__debug__" : Str)) = false := by decide) : PE X (.Name x p) (tC (.ref a)) := pe_glob hg h rfl hd
end
section
variable {X : Cx} {α : Type} {e o value : Expr} {f : Str} {pos pos' : Pos} {ta tv : TE} {C : Addr} {fsOf : α -> List (Str × V)}
def tAt (C : Addr) (fsOf : α -> List (Str × V)) (g : α -> V) (ta : TE) : TE := fun σ H Q => ta σ H fun v H1 => ∃ a x, v = .ref a /\ (∃ dx, H1 a = some (.ins C dx (fsOf x))) /\ Q (g x) H1
theorem pe_at {g : α -> V} (c : Cls X.K C) (n : NoAttr X.K C f) (hg : ∀ x, (fsOf x).lookup f = some (g x)) (he : PE X e ta) (hb : attributeBase e f X.env (eval e X.env) = eval e X.env) : PE X (.Attribute e f pos) (tAt C fsOf g ta) := by
 intro pins s σ H Q I h
 refine attr_of hb (thn (he pins s σ H _ I h) fun u s1 ⟨v, H1, I1, rv, a, x, ev, ⟨dx, ea⟩, q⟩ => ?_)
 subst ev
 obtain rfl : u = Value.ref a := rv
 exact getattr_ok I1 ea c n (hg x) fun u' s2 I2 ru => ⟨g x, H1, I2, ru, q⟩
def sAt (C : Addr) (fsOf : α -> List (Str × V)) (f : Str) (ta tv : TE) : TS := fun D σ H => tv σ H fun y H1 => ta σ H1 fun v H2 => ∃ a x x', v = .ref a /\ (∃ dx, H2 a = some (.ins C dx (fsOf x))) /\ L2.putF f y (fsOf x) = fsOf x' /\
 ∀ H', (∃ dx, H' a = some (.ins C dx (fsOf x'))) -> (∀ b, b ≠ a -> H' b = H2 b) -> D.nx σ H'
theorem ps_at (c : Cls X.K C) (n : NoAttr X.K C f) (hl : ∀ x, (fsOf x).length < 1000) (ha : PE X o ta) (hv : PE X value tv) (hs : swapsWith value (some (.Attribute o f pos')) pos.line X.env = pure false) :
  PS X (.Assign [.Attribute o f pos'] value pos) (sAt C fsOf f ta tv) := by
 intro pins s σ H D I h
 refine plainObj_wpAny_Assign_Attribute (thn (hv pins s σ H _ I h) fun u s1 ⟨y, H1, I1, ry, q⟩ => thn (ha pins s1 σ H1 _ I1 q) fun ov s2 ⟨v, H2, I2, rv, a, x, x', ev, ⟨dx, ea⟩, ep, q2⟩ => ?_) hs
 subst ev
 obtain rfl : ov = Value.ref a := rv
 exact setattr_ok I2 ea c n (hl x) ry fun s3 I3 => ⟨σ, _, I3, q2 _ ⟨dx, by rw [uS, ep]⟩ fun b hb => uN hb⟩
end
abbrev CI (mg : Str -> Option Value) (x : Str) (v : Int) : Prop := ∃ t, mg x = some (.int v t)
abbrev CT (K : PySem.W.Frag) (mg : Str -> Option Value) (x : Str) (vs : List V) : Prop := ∃ a, mg x = some (.ref a) /\ ∀ H, SqT K H a vs
structure Con (K : PySem.W.Frag) (mg : Str -> Option Value) : Prop where
 b_len : mg "len" = none
 b_list : mg "list" = none
 b_range : mg "range" = none
 b_sum : mg "sum" = none
 b_max : mg "max" = none
 b_min : mg "min" = none
 b_sorted : mg "sorted" = none
 b_zip : mg "zip" = none
 b_all : mg "all" = none
 b_any : mg "any" = none
 b_set : mg "set" = none
 c_NOBODY : CI mg "NOBODY" (-1)
 c_NO_PLACE : CI mg "NO_PLACE" (0)
 c_OUT_OF_RANGE : CI mg "OUT_OF_RANGE" (-2)
 c_NOT_GIVEN_OUT : CI mg "NOT_GIVEN_OUT" (-3)
 c_THERE_ALREADY : CI mg "THERE_ALREADY" (-4)
 c_NOT_THERE : CI mg "NOT_THERE" (-5)
 c_WRONG_TIME : CI mg "WRONG_TIME" (-6)
 c_NO_SLOT_FOR_IT : CI mg "NO_SLOT_FOR_IT" (-7)
 c_FULL : CI mg "FULL" (-8)
 c_CANCELLED_OR_WITHOUT_SLOT : CI mg "CANCELLED_OR_WITHOUT_SLOT" (-9)
 c_NOT_OPEN : CI mg "NOT_OPEN" (-9)
 c_DO_NOT_FIT : CI mg "DO_NOT_FIT" (-10)
 c_MAY_NOT_HAVE : CI mg "MAY_NOT_HAVE" (-11)
 c_SOMEBODY_LOSES : CI mg "SOMEBODY_LOSES" (-12)
 c_NOT_ALL : CI mg "NOT_ALL" (-13)
 c_SLOTS : CI mg "SLOTS" (0)
 c_FLIGHT : CI mg "FLIGHT" (1)
 c_EXEMPT : CI mg "EXEMPT" (2)
 c_READY : CI mg "READY" (3)
 c_CANCEL : CI mg "CANCEL" (4)
 c_RATION : CI mg "RATION" (5)
 c_COMPRESS : CI mg "COMPRESS" (6)
 c_SWAP : CI mg "SWAP" (7)
 c_BEST : CI mg "BEST" (8)
 c_TRADE : CI mg "TRADE" (9)
 c_RELEASE : CI mg "RELEASE" (10)
 c_SLOT : CI mg "SLOT" (11)
 c_TABLE : CI mg "TABLE" (12)
 c_CARRIER : CI mg "CARRIER" (13)
 c_TOTAL : CI mg "TOTAL" (14)
 c_QUEUE : CI mg "QUEUE" (15)
 c_RIVAL : CI mg "RIVAL" (16)
 c_OPEN : CI mg "OPEN" (17)
 c_LAST_TIME : CI mg "LAST_TIME" (52595999)
 c_MOST_SLOTS : CI mg "MOST_SLOTS" (120)
 c_MOST_FLIGHTS : CI mg "MOST_FLIGHTS" (60)
 c_MOST_IN_A_ROW : CI mg "MOST_IN_A_ROW" (60)
 t_ID_RANGE : CT K mg "ID_RANGE" [.int (0), .int (999999)]
 t_CARRIER_RANGE : CT K mg "CARRIER_RANGE" [.int (0), .int (675)]
 t_WEIGHT_RANGE : CT K mg "WEIGHT_RANGE" [.int (1), .int (1000)]
 t_GAP_RANGE : CT K mg "GAP_RANGE" [.int (1), .int (1440)]
 t_YES_RANGE : CT K mg "YES_RANGE" [.int (0), .int (1)]
structure Txt (K : PySem.W.Frag) (mg : Str -> Option Value) (c : Cs) : Prop extends Con K mg where
 clH : Cls K c.H
 clS : Cls K c.S
 clF : Cls K c.F
 nSlots : NoAttr K c.H "slots"
 nFlights : NoAttr K c.H "flights"
 nGiven : NoAttr K c.H "given_out"
 nTime : NoAttr K c.S "time"
 nOwner : NoAttr K c.S "owner"
 nNumber : NoAttr K c.F "number"
 nCarrier : NoAttr K c.F "carrier"
 nPlanned : NoAttr K c.F "planned"
 nReady : NoAttr K c.F "ready"
 nWeight : NoAttr K c.F "weight"
 nExempt : NoAttr K c.F "exempt"
 nCancelled : NoAttr K c.F "cancelled"
 nPlace : NoAttr K c.F "place"
section
variable {X : Cx} {c : Cs} {e o value : Expr} {pos pos' : Pos} {ta tv : TE}
def hsOf (x : Addr × Addr × Bool) : List (Str × V) := hfs x.1 x.2.1 x.2.2
abbrev tH (c : Cs) (g : Addr × Addr × Bool -> V) (ta : TE) : TE := tAt c.H hsOf g ta
abbrev tS (c : Cs) (g : Slot -> V) (ta : TE) : TE := tAt c.S sfs g ta
abbrev tF (c : Cs) (g : Flight -> V) (ta : TE) : TE := tAt c.F ffs g ta
theorem pf_slots (T : Txt X.K X.mg c) (he : PE X e ta) (hb : attributeBase e "slots" X.env (eval e X.env) = eval e X.env := by rfl) : PE X (.Attribute e "slots" pos) (tH c (fun x => .ref x.1) ta) := pe_at T.clH T.nSlots (fun _ => rfl) he hb
theorem pf_flights (T : Txt X.K X.mg c) (he : PE X e ta) (hb : attributeBase e "flights" X.env (eval e X.env) = eval e X.env := by rfl) : PE X (.Attribute e "flights" pos) (tH c (fun x => .ref x.2.1) ta) := pe_at T.clH T.nFlights (fun _ => rfl) he hb
theorem pf_given_out (T : Txt X.K X.mg c) (he : PE X e ta) (hb : attributeBase e "given_out" X.env (eval e X.env) = eval e X.env := by rfl) : PE X (.Attribute e "given_out" pos) (tH c (fun x => .bl x.2.2) ta) := pe_at T.clH T.nGiven (fun _ => rfl) he hb
theorem pf_time (T : Txt X.K X.mg c) (he : PE X e ta) (hb : attributeBase e "time" X.env (eval e X.env) = eval e X.env := by rfl) : PE X (.Attribute e "time" pos) (tS c (fun x => .int x.time) ta) := pe_at T.clS T.nTime (fun _ => rfl) he hb
theorem pf_owner (T : Txt X.K X.mg c) (he : PE X e ta) (hb : attributeBase e "owner" X.env (eval e X.env) = eval e X.env := by rfl) : PE X (.Attribute e "owner" pos) (tS c (fun x => .int (oI x.owner)) ta) := pe_at T.clS T.nOwner (fun _ => rfl) he hb
theorem pf_number (T : Txt X.K X.mg c) (he : PE X e ta) (hb : attributeBase e "number" X.env (eval e X.env) = eval e X.env := by rfl) : PE X (.Attribute e "number" pos) (tF c (fun x => .int x.id) ta) := pe_at T.clF T.nNumber (fun _ => rfl) he hb
theorem pf_carrier (T : Txt X.K X.mg c) (he : PE X e ta) (hb : attributeBase e "carrier" X.env (eval e X.env) = eval e X.env := by rfl) : PE X (.Attribute e "carrier" pos) (tF c (fun x => .int x.carrier) ta) := pe_at T.clF T.nCarrier (fun _ => rfl) he hb
theorem pf_planned (T : Txt X.K X.mg c) (he : PE X e ta) (hb : attributeBase e "planned" X.env (eval e X.env) = eval e X.env := by rfl) : PE X (.Attribute e "planned" pos) (tF c (fun x => .int x.sched) ta) := pe_at T.clF T.nPlanned (fun _ => rfl) he hb
theorem pf_ready (T : Txt X.K X.mg c) (he : PE X e ta) (hb : attributeBase e "ready" X.env (eval e X.env) = eval e X.env := by rfl) : PE X (.Attribute e "ready" pos) (tF c (fun x => .int x.ready) ta) := pe_at T.clF T.nReady (fun _ => rfl) he hb
theorem pf_weight (T : Txt X.K X.mg c) (he : PE X e ta) (hb : attributeBase e "weight" X.env (eval e X.env) = eval e X.env := by rfl) : PE X (.Attribute e "weight" pos) (tF c (fun x => .int x.weight) ta) := pe_at T.clF T.nWeight (fun _ => rfl) he hb
theorem pf_exempt (T : Txt X.K X.mg c) (he : PE X e ta) (hb : attributeBase e "exempt" X.env (eval e X.env) = eval e X.env := by rfl) : PE X (.Attribute e "exempt" pos) (tF c (fun x => .bl x.exempt) ta) := pe_at T.clF T.nExempt (fun _ => rfl) he hb
theorem pf_cancelled (T : Txt X.K X.mg c) (he : PE X e ta) (hb : attributeBase e "cancelled" X.env (eval e X.env) = eval e X.env := by rfl) : PE X (.Attribute e "cancelled" pos) (tF c (fun x => .bl x.gone) ta) := pe_at T.clF T.nCancelled (fun _ => rfl) he hb
theorem pf_place (T : Txt X.K X.mg c) (he : PE X e ta) (hb : attributeBase e "place" X.env (eval e X.env) = eval e X.env := by rfl) : PE X (.Attribute e "place" pos) (tF c (fun x => .int (pI x.place)) ta) := pe_at T.clF T.nPlace (fun _ => rfl) he hb
theorem sf_given_out (T : Txt X.K X.mg c) (ha : PE X o ta) (hv : PE X value tv) (hs : swapsWith value (some (.Attribute o "given_out" pos')) pos.line X.env = pure false) : PS X (.Assign [.Attribute o "given_out" pos'] value pos) (sAt c.H hsOf "given_out" ta tv) := ps_at T.clH T.nGiven (fun _ => by show 3 < 1000; decide) ha hv hs
theorem sf_owner (T : Txt X.K X.mg c) (ha : PE X o ta) (hv : PE X value tv) (hs : swapsWith value (some (.Attribute o "owner" pos')) pos.line X.env = pure false) : PS X (.Assign [.Attribute o "owner" pos'] value pos) (sAt c.S sfs "owner" ta tv) := ps_at T.clS T.nOwner (fun _ => by show 2 < 1000; decide) ha hv hs
theorem sf_ready (T : Txt X.K X.mg c) (ha : PE X o ta) (hv : PE X value tv) (hs : swapsWith value (some (.Attribute o "ready" pos')) pos.line X.env = pure false) : PS X (.Assign [.Attribute o "ready" pos'] value pos) (sAt c.F ffs "ready" ta tv) := ps_at T.clF T.nReady (fun _ => by show 8 < 1000; decide) ha hv hs
theorem sf_exempt (T : Txt X.K X.mg c) (ha : PE X o ta) (hv : PE X value tv) (hs : swapsWith value (some (.Attribute o "exempt" pos')) pos.line X.env = pure false) : PS X (.Assign [.Attribute o "exempt" pos'] value pos) (sAt c.F ffs "exempt" ta tv) := ps_at T.clF T.nExempt (fun _ => by show 8 < 1000; decide) ha hv hs
theorem sf_cancelled (T : Txt X.K X.mg c) (ha : PE X o ta) (hv : PE X value tv) (hs : swapsWith value (some (.Attribute o "cancelled" pos')) pos.line X.env = pure false) : PS X (.Assign [.Attribute o "cancelled" pos'] value pos) (sAt c.F ffs "cancelled" ta tv) := ps_at T.clF T.nCancelled (fun _ => by show 8 < 1000; decide) ha hv hs
theorem sf_place (T : Txt X.K X.mg c) (ha : PE X o ta) (hv : PE X value tv) (hs : swapsWith value (some (.Attribute o "place" pos')) pos.line X.env = pure false) : PS X (.Assign [.Attribute o "place" pos'] value pos) (sAt c.F ffs "place" ta tv) := ps_at T.clF T.nPlace (fun _ => by show 8 < 1000; decide) ha hv hs
end
theorem iteI {i j : Int} {A B : Prop} (h1 : i = j -> A) (h2 : i ≠ j -> B) : if decide (V.int i = V.int j) = true then A else B := by
 by_cases h : i = j
 ·rw [if_pos (by rw [h]; exact decide_eq_true rfl)]; exact h1 h
 ·rw [if_neg (by rw [decide_eq_true_eq]; exact fun z => h (V.int.inj z))]; exact h2 h
theorem iteNI {i j : Int} {A B : Prop} (h1 : i ≠ j -> A) (h2 : i = j -> B) : if (!decide (V.int i = V.int j)) = true then A else B := by
 by_cases h : i = j
 ·rw [if_neg (by rw [h]; simp)]; exact h2 h
 ·rw [if_pos (by have : ¬ V.int i = V.int j := fun z => h (V.int.inj z); simp [this])]; exact h1 h
theorem iteD {p A B : Prop} [Decidable p] (h1 : p -> A) (h2 : ¬ p -> B) : if decide p = true then A else B := by
 by_cases h : p
 ·rw [if_pos (decide_eq_true h)]; exact h1 h
 ·rw [if_neg (by rw [decide_eq_true_eq]; exact h)]; exact h2 h
theorem iteB {b : Bool} {A B : Prop} (h1 : b = true -> A) (h2 : b = false -> B) : if b = true then A else B := by
 cases b with
 | true => rw [if_pos rfl]; exact h1 rfl
 | false => rw [if_neg Bool.false_ne_true]; exact h2 rfl
theorem iteN {b : Bool} {A B : Prop} (h1 : b = false -> A) (h2 : b = true -> B) : if (!b) = true then A else B := by
 cases b with
 | true => rw [if_neg (by simp)]; exact h2 rfl
 | false => rw [if_pos (by simp)]; exact h1 rfl
end SHP
end
section
namespace SHP
open PySem PySem.Spec PyProof.Rows L2 SH
open Vbahas (Slot Flight State)
section
variable {P : Program} {w : World} {K : PySem.W.Frag} {mg : Str -> Option Value} {base : Heap} {c : Cs}
theorem zl1 : 1 <= sizeLine := by decide
theorem zl2 : 2 <= sizeLine := by decide
theorem zl3 : 3 <= sizeLine := by decide
theorem zl4 : 4 <= sizeLine := by decide
theorem zl5 : 5 <= sizeLine := by decide
theorem sc_slot_at : FSc ["house", "place"] ["house", "place"] (dSc s_slot_at) := ⟨rfl, rfl, rfl, by decide +kernel, rfl, by decide +kernel, by decide +kernel⟩
def sp_slot_at (c : Cs) : Sp := fun vs H Q _ => ∃ (k : Hs) (p : Nat) (a : Addr) (x : Slot), vs = [.ref k.h, .int ((p : Int) + 1)] /\ At c H k /\ k.ss[p]? = some (a, x) /\ Q (.ref a) H
theorem ok_slot_at (T : Txt K mg c) (D : DefAt K mg "slot_at" s_slot_at ["house", "place"]) : Ok P w K mg base 1 "slot_at" ["house", "place"] (sp_slot_at c) := by
 refine mkOk D sc_slot_at (fun vs H Q E h => ?_) fun f cdv A outer s H vs Q E hr h => ?_
 ·obtain ⟨k, p, a, x, rfl, _⟩ := h; rfl
 ·obtain ⟨k, p, a, x, rfl, hA, hx, q⟩ := h
  have nd := sc_slot_at.nd
  refine ⟨_, (bO (pRt (pe_ix iXl (pf_slots T (pv 0)) (pe_op op_sub (pv 1) pe_int) (fun _ _ => rfl)))), ?_⟩
  refine ⟨_, rfl, k.h, (k.la, k.da, k.g), rfl, hA.hh, _, rfl, _, _, rfl, rfl, k.la, _, _, _, rfl, rfl, SqL.of hA.hl, at_of (j := p) (v := V.ref a) (by omega) (by rw [List.getElem?_map, hx]; rfl), q⟩
theorem sc_all_places : FSc ["house"] ["house"] (dSc s_all_places) := ⟨rfl, rfl, rfl, by decide +kernel, rfl, by decide +kernel, by decide +kernel⟩
def plV (p : Nat) : V := V.int ((p : Int) + 1)
def sp_all_places (c : Cs) : Sp := fun vs H Q _ => ∃ k : Hs, vs = [.ref k.h] /\ At c H k /\ k.ss.length <= 120 /\ RetL H ((List.range k.ss.length).map plV) Q
theorem ok_all_places (T : Txt K mg c) (D : DefAt K mg "all_places" s_all_places ["house"]) : Ok P w K mg base 1 "all_places" ["house"] (sp_all_places c) := by
 refine mkOk D sc_all_places (fun vs H Q E h => ?_) fun f cdv A outer s H vs Q E hr h => ?_
 ·obtain ⟨k, rfl, _⟩ := h; rfl
 ·obtain ⟨k, rfl, hA, hl, q⟩ := h
  refine ⟨_, (bO (pRt (pe_callTy (call_list_rng rfl) rfl T.b_list (by decide +kernel) (aC (pe_range2 rfl T.b_range (aC pe_int (aC (pe_op op_add (pe_callB cLn (by rfl) T.b_len PySem.boot_len (aC (pf_slots T (pv 0)) aN)) pe_int) aN))) aN)))), ?_⟩
  refine ⟨_, rfl, k.h, (k.la, k.da, k.g), rfl, hA.hh, k.la, _, rfl, .inl (SqL.of hA.hl), _, _, rfl, rfl, _, _, rfl, fun r hr' => ⟨r, _, _, k.ss.length, rfl, uS, by decide, by decide, ?_, ?_, ?_, by omega, fun l hl' => ?_⟩⟩
  ·rw [List.length_map]; omega
  ·rw [List.length_map]; omega
  ·rw [List.length_map]; omega
  ·have e : ((List.range k.ss.length).map fun i : Nat => V.int (1 + (i : Int))) = (List.range k.ss.length).map plV := List.map_congr_left fun i _ => by
    show V.int (1 + (i : Int)) = V.int ((i : Int) + 1)
    rw [Int.add_comm]
   rw [e]
   exact q.of (Same.upd hr') l hl'
theorem sc_may_have : FSc ["flight", "slot"] ["flight", "slot"] (dSc s_may_have) := ⟨rfl, rfl, rfl, by decide +kernel, rfl, by decide +kernel, by decide +kernel⟩
def sp_may_have (c : Cs) : Sp := fun vs H Q _ => ∃ (a b : Addr) (f : Flight) (x : Slot), vs = [.ref a, .ref b] /\ IsFl c.F H a f /\ IsSl c.S H b x /\ Q (.bl (decide (f.ready <= x.time))) H
theorem ok_may_have (T : Txt K mg c) (D : DefAt K mg "may_have" s_may_have ["flight", "slot"]) : Ok P w K mg base 1 "may_have" ["flight", "slot"] (sp_may_have c) := by
 refine mkOk D sc_may_have (fun vs H Q E h => ?_) fun f cdv A outer s H vs Q E hr h => ?_
 ·obtain ⟨a, b, f, x, rfl, _⟩ := h; rfl
 ·obtain ⟨a, b, f, x, rfl, hf, hx, q⟩ := h
  refine ⟨_, (bO (pRt (pe_cmpR op_ge (pf_time T (pv 1)) (pf_ready T (pv 0)) (nMk _)))), ?_⟩
  exact ⟨_, rfl, b, x, rfl, hx, _, rfl, a, f, rfl, hf, _, _, rfl, rfl, q⟩
theorem sc_living_flights : FSc ["house", "flight"] ["house"] (dSc s_living_flights) := ⟨rfl, rfl, rfl, by decide +kernel, rfl, by decide +kernel, by decide +kernel⟩
def Hs.liv (k : Hs) : List (Addr × Flight) := k.fs.filter fun x => !x.2.gone
def refV {α : Type} (x : Addr × α) : V := V.ref x.1
def sp_living_flights (c : Cs) : Sp := fun vs H Q _ => ∃ k : Hs, vs = [.ref k.h] /\ At c H k /\ k.fs.length <= 60 /\ RetL H (k.liv.map refV) Q
theorem ok_living_flights (T : Txt K mg c) (D : DefAt K mg "living_flights" s_living_flights ["house"]) : Ok P w K mg base 1 "living_flights" ["house"] (sp_living_flights c) := by
 refine mkOk D sc_living_flights (fun vs H Q E h => ?_) fun f cdv A outer s H vs Q E hr h => ?_
 ·obtain ⟨k, rfl, _⟩ := h; rfl
 ·obtain ⟨k, rfl, hA, hl, q⟩ := h
  have nd := sc_living_flights.nd
  refine ⟨_, (bO (pRt (pe_lock (pe_lc (own := [("flight", 1)]) rfl nd (pi_values (pf_flights T (pv 0))) (blkOk_by (by show blkC ["house", "flight"] (dSc s_living_flights) _ _ = true; decide +kernel)) (fun _ _ _ _ _ => (pg_name (i := 1) nd rfl (Or.inl rfl))) (fun _ _ _ _ _ => (pts_one (pt_not (pt_val (pf_cancelled T (pv 1)))))) (fun _ _ _ _ _ => (pv 1)))))), ?_⟩
  obtain ⟨dh, eh⟩ := hA.hh
  have n1 : k.h ≠ k.da := ne_of eh hA.hd (fun z => nomatch z)
  refine ⟨k.da, _, hA.hd, trivial, fun od => ?_⟩
  refine ⟨_, rfl, k.h, (k.la, k.da, k.g), rfl, ⟨dh, by rw [uN n1]; exact eh⟩, k.da, od, _, rfl, uS, fun D hD => ?_⟩
  refine lc_vals (xs := k.fs) (key := fun x => Sum.inl x.2.id) (enc := refV) (p := fun x => !x.2.gone) (f := refV) uS hD (by omega) (fun x H2 N acc hx sm hacc hz hN => ?_) fun H2 sm hD2 => ?_
  ·obtain ⟨d, e⟩ := hA.hf x hx
   have ne : x.1 ≠ k.da := ne_of e hA.hd (fun z => nomatch z)
   refine ⟨rfl, ⟨_, rfl, x.1, x.2, rfl, ⟨d, sm _ _ (by rw [uN ne]; exact e)⟩, _, rfl, ?_⟩⟩
   cases hg : x.2.gone with
   | true =>
    rw [if_neg (by simp)]
    refine hN _ sm ?_
    rw [hg]; exact hacc
   | false =>
    rw [if_pos (by simp)]
    refine ⟨_, rfl, acc, hacc, lt1000 hz, hN _ ?_ ?_⟩
    ·exact fun b o e' => by rw [uN (nN e' hD)]; exact sm b o e'
    ·rw [uS, hg]; rfl
  ·refine ⟨sm _ _ uS, q D _ ?_ ?_ ?_⟩
   ·by_cases z : D = k.da
    ·rw [z, uS] at hD; cases hD
    ·rw [uN z] at hD; exact hD
   ·intro b o e
    by_cases z : b = k.da
    ·subst z; rw [uS]; rw [hA.hd] at e; exact e
    ·rw [uN z]; exact sm _ _ (by rw [uN z]; exact e)
   ·have z : D ≠ k.da := fun z => by rw [z, uS] at hD; cases hD
    rw [uN z]; exact hD2
end
end SHP
end
section
namespace SHP
open PySem PySem.Spec PyProof.Rows L2 SH
open Vbahas (Slot Flight State)
structure Sta (c : Cs) (H : Hp) (k : Hs) (s : State) : Prop where
 at_ : At c H k
 rel : SH.Rel k.sl k.fl k.g s
section
variable {c : Cs} {H H' : Hp} {k : Hs} {s : State}
theorem Sta.same (S : Sta c H k s) (e : Same H H') : Sta c H' k s := ⟨S.at_.same e, S.rel⟩
theorem Sta.nsl (S : Sta c H k s) : k.ss.length <= 120 := by
 have := S.rel.so.len
 unfold Hs.sl at this
 rw [List.length_map] at this
 exact this
theorem Sta.nfl (S : Sta c H k s) : k.fs.length <= 60 := by
 have h1 := S.rel.len
 have h2 := S.rel.wf.nfl
 unfold Hs.fl at h1
 rw [List.length_map] at h1
 omega
theorem Hs.sl_len (k : Hs) : k.sl.length = k.ss.length := List.length_map ..
theorem Hs.fl_len (k : Hs) : k.fl.length = k.fs.length := List.length_map ..
theorem Hs.mem_fl {k : Hs} {x : Addr × Flight} (h : x ∈ k.fs) : x.2 ∈ k.fl := List.mem_map_of_mem h
theorem Hs.tOf_ss {k : Hs} {p : Nat} {a : Addr} {x : Slot} (h : k.ss[p]? = some (a, x)) : tOf k.sl p = x.time := tOf_some (by unfold Hs.sl; rw [List.getElem?_map, h]; rfl)
theorem Hs.oOf_ss {k : Hs} {p : Nat} {a : Addr} {x : Slot} (h : k.ss[p]? = some (a, x)) : oOf k.sl p = x.owner := oOf_some (by unfold Hs.sl; rw [List.getElem?_map, h]; rfl)
theorem Hs.get {k : Hs} {p : Nat} (h : p < k.ss.length) : ∃ a x, k.ss[p]? = some (a, x) := ⟨_, _, List.getElem?_eq_getElem h⟩
theorem Sta.place (S : Sta c H k s) {x : Addr × Flight} (hx : x ∈ k.fs) {p : Nat} (hp : x.2.place = some p) : ∃ a y, k.ss[p]? = some (a, y) := by
 have := ((S.rel.fok (Hs.mem_fl hx)).place p hp).1
 rw [Hs.sl_len] at this
 exact Hs.get this
end
section
variable {P : Program} {w : World} {K : PySem.W.Frag} {mg : Str -> Option Value} {base : Heap} {c : Cs}
theorem sc_flights_of : FSc ["house", "carrier", "flight"] ["house", "carrier"] (dSc s_flights_of) := ⟨rfl, rfl, rfl, by decide +kernel, rfl, by decide +kernel, by decide +kernel⟩
def Hs.livC (k : Hs) (cc : Int) : List (Addr × Flight) := k.liv.filter fun x => decide (x.2.carrier = cc)
def sp_flights_of (c : Cs) : Sp := fun vs H Q _ => ∃ (k : Hs) (s : State) (cc : Int), vs = [.ref k.h, .int cc] /\ Sta c H k s /\ RetL H ((k.livC cc).map refV) Q
theorem liv_len (k : Hs) : k.liv.length <= k.fs.length := List.length_filter_le ..
theorem ok_flights_of (T : Txt K mg c) (D : DefAt K mg "flights_of" s_flights_of ["house", "carrier"]) (O_living_flights : Ok P w K mg base 1 "living_flights" ["house"] (sp_living_flights c)) : Ok P w K mg base 2 "flights_of" ["house", "carrier"] (sp_flights_of c) := by
 refine mkOk D sc_flights_of (fun vs H Q E h => ?_) fun f cdv A outer s H vs Q E hr h => ?_
 ·obtain ⟨k, s, cc, rfl, _⟩ := h; rfl
 ·obtain ⟨k, s, cc, rfl, hS, q⟩ := h
  have nd := sc_flights_of.nd
  refine ⟨_, (bO (pRt (pe_lc (own := [("flight", 2)]) rfl nd (pi_list (pe_fn O_living_flights hr rfl (aC (pv 0) aN))) (blkOk_by (by show blkC ["house", "carrier", "flight"] (dSc s_flights_of) _ _ = true; decide +kernel)) (fun _ _ _ _ _ => (pg_name (i := 2) nd rfl (Or.inl rfl))) (fun _ _ _ _ _ => (pts_one (tCm op_eq (pf_carrier T (pv 2)) (pv 1) (nMk _)))) (fun _ _ _ _ _ => (pv 2))))), ?_⟩
  refine ⟨_, rfl, k, rfl, hS.at_, hS.nfl, fun l H1 hl s1 el => ⟨l, rfl, ⟨_, SqL.of el⟩, fun D hD => ?_⟩⟩
  refine lc_pure (xs := k.liv) (enc := refV) (p := fun x => decide (x.2.carrier = cc)) (f := refV) (fun H2 s2 => SqL.of (s2 _ _ el)) hD (by have := liv_len k; have := hS.nfl; omega) (fun x H2 N acc hx sm hacc hz hN => ?_) fun H2 sm hD2 => q D H2 (s1.free hD) (s1.trans sm) hD2
  have hx' := (List.mem_filter.mp hx).1
  refine ⟨rfl, _, rfl, x.1, x.2, rfl, (hS.at_.same (s1.trans sm)).hf x hx', _, rfl, rfl, _, rfl, iteI (fun e => ?_) fun e => ?_⟩
  ·refine ⟨_, rfl, acc, hacc, lt1000 hz, hN _ (fun b o e' => by rw [uN (nN e' hD)]; exact sm b o e') ?_⟩
   rw [uS, if_pos (decide_eq_true e)]
  ·exact hN _ sm (by rw [if_neg (by rw [decide_eq_true_eq]; exact e)]; exact hacc)
theorem sc_holders : FSc ["house", "held", "flight"] ["house"] (dSc s_holders) := ⟨rfl, rfl, rfl, by decide +kernel, rfl, by decide +kernel, by decide +kernel⟩
def hold (fl : List Flight) (j : Int) : Option Flight := if j = 0 then none else fl.reverse.find? fun f => decide (pI f.place = j)
def Held (fl : List Flight) (kvs : List (Key × V)) : Prop := ∀ j : Int, valV kvs (Sum.inl j) = (hold fl j).map fun f => V.int f.id
def sp_holders (c : Cs) : Sp := fun vs H Q _ => ∃ (k : Hs) (s : State), vs = [.ref k.h] /\ Sta c H k s /\ ∀ d H' kvs, H d = none -> Same H H' -> H' d = some (.dK kvs) -> Held k.fl kvs -> Q (.ref d) H'
theorem ok_holders (T : Txt K mg c) (D : DefAt K mg "holders" s_holders ["house"]) : Ok P w K mg base 1 "holders" ["house"] (sp_holders c) := by
 refine mkOk D sc_holders (fun vs H Q E h => ?_) fun f cdv A outer s H vs Q E hr h => ?_
 ·obtain ⟨k, s, rfl, _⟩ := h; rfl
 ·obtain ⟨k, s, rfl, hS, q⟩ := h
  have nd := sc_holders.nd
  have hu := hu_of hr
  have hA := hS.at_
  refine ⟨_, (bC (ps_set (i := 1) nd rfl (by first | exact Or.inl rfl | exact Or.inr rfl) pe_dnewK)
   (bC (ps_lock (ps_for PassesOwn.never rfl (pi_values (pf_flights T (pv 0))) (pg_name (i := 2) nd rfl (Or.inl rfl)) (bO (ps_if (tCm op_ne (pf_place T (pv 2)) (gIn T.c_NO_PLACE rfl) (nMk _)) (bO (ps_dput hu (pv 1) (pf_place T (pv 2)) (pf_number T (pv 2)) rfl)) bN))))
   (bO (pRt (pv 1))))), ?_⟩
  intro d hd
  obtain ⟨dh, eh⟩ := hA.hh
  have n1 : k.h ≠ k.da := ne_of eh hA.hd (fun z => nomatch z)
  have nd1 : k.da ≠ d := nN hA.hd hd
  refine ⟨k.da, _, Same.upd hd _ _ hA.hd, trivial, fun od => ?_⟩
  refine ⟨_, rfl, k.h, (k.la, k.da, k.g), rfl, ⟨dh, by rw [uN n1]; exact Same.upd hd _ _ eh⟩, k.da, od, _, rfl, uS, ?_⟩
  refine for_vals (fun i σ H2 => ∃ v kvs, σ = [some (.ref k.h), some (.ref d), v] /\ (∀ b o, b ≠ d -> (upd H k.da (.frz od (.dK (k.fs.map fun x => (Sum.inl x.2.id, V.ref x.1))))) b = some o -> H2 b = some o) /\ H2 d = some (.dK kvs) /\ kvs.length <= i /\ Held (k.fl.take i) kvs) ?_ ?_ ?_ ?_
  ·refine ⟨none, [], rfl, fun b o ne e => ?_, ?_, Nat.le_refl _, fun i => ?_⟩
   ·by_cases z : b = k.da
    ·subst z; rw [uS] at e ⊢; exact e
    ·rw [uN z] at e ⊢; rw [uN ne]; exact e
   ·rw [uN (Ne.symm nd1), uS]
   ·unfold hold
    split <;> rfl
  ·rintro i σ H2 _ ⟨v, kvs, _, hk, _⟩
   exact hk _ _ nd1 uS
  ·rintro i key x σ H2 hi ⟨v, kvs, rfl, hk, hdk, hlen, hheld⟩
   rw [List.getElem?_map] at hi
   obtain ⟨y, hy, ey⟩ := Option.map_eq_some_iff.mp hi
   injection ey with _ ev
   subst ev
   have hym : y ∈ k.fs := List.mem_of_getElem? hy
   have hil : i < k.fs.length := (List.getElem?_eq_some_iff.mp hy).1
   obtain ⟨dy, e⟩ := hA.hf y hym
   have n2 : y.1 ≠ k.da := ne_of e hA.hd (fun z => nomatch z)
   have n3 : y.1 ≠ d := nN e hd
   have e2 : IsFl c.F H2 y.1 y.2 := ⟨dy, hk _ _ n3 (by rw [uN n2]; exact e)⟩
   have et : k.fl.take (i + 1) = k.fl.take i ++ [y.2] := by
    unfold Hs.fl
    rw [List.take_add_one, List.getElem?_map, hy]; rfl
   have eh2 : ∀ j, hold (k.fl.take (i + 1)) j = if j ≠ 0 /\ pI y.2.place = j then some y.2 else hold (k.fl.take i) j := fun j => by
    rw [et]
    unfold hold
    by_cases z : j = 0
    ·rw [if_pos z, if_pos z, if_neg (fun a => a.1 z)]
    ·rw [if_neg z, if_neg z, List.reverse_append, List.reverse_singleton, List.singleton_append, List.find?_cons]
     by_cases z2 : pI y.2.place = j
     ·rw [if_pos ⟨z, z2⟩, decide_eq_true z2]
     ·rw [if_neg (fun a => z2 a.2), decide_eq_false z2]
   refine ⟨_, rfl, y.1, y.2, rfl, e2, rfl, _, rfl, iteNI (fun z0 => ?_) fun z0 => ?_⟩
   ·refine ⟨_, rfl, y.1, y.2, rfl, e2, _, rfl, _, rfl, y.1, y.2, rfl, e2, d, _, rfl, DPut.k (k := Sum.inl (pI y.2.place)) hdk (small1000 (by have := hS.nfl; omega)), ?_⟩
    refine ⟨_, putK kvs (Sum.inl (pI y.2.place)) (.int y.2.id), rfl, fun b o ne e => by rw [uN ne]; exact hk b o ne e, uS, ?_, fun j => ?_⟩
    ·have := length_putK kvs (Sum.inl (pI y.2.place) : Key) (.int y.2.id); omega
    ·rw [valV_put, eh2]
     by_cases z : j = pI y.2.place
     ·rw [if_pos (by rw [z]), if_pos ⟨fun a => z0 (by rw [<- z, a]), z.symm⟩]; rfl
     ·rw [if_neg (fun z' => z (Sum.inl.inj z')), if_neg (fun a => z a.2.symm)]
      exact hheld j
   ·refine ⟨_, kvs, rfl, hk, hdk, by omega, fun j => ?_⟩
    rw [eh2, if_neg (fun a => a.1 (by rw [<- a.2, z0]))]
    exact hheld j
  ·rintro σ H2 ⟨v, kvs, rfl, hk, hdk, hlen, hheld⟩
   refine ⟨hk _ _ nd1 uS, _, rfl, q d _ kvs hd (fun b o e => ?_) (by rw [uN (Ne.symm nd1)]; exact hdk) ?_⟩
   ·by_cases z : b = k.da
    ·subst z; rw [uS]; rw [hA.hd] at e; exact e
    ·rw [uN z]; exact hk b o (nN e hd) (by rw [uN z]; exact e)
   ·rw [List.length_map] at hheld
    unfold Hs.fl at hheld
    rw [<- List.length_map (f := (·.2)) (as := k.fs), List.take_length] at hheld
    exact hheld
theorem hold_some {fl : List Flight} {p : Nat} {f : Flight} (h : hold fl ((p : Int) + 1) = some f) : f ∈ fl /\ f.place = some p := by
 unfold hold at h
 rw [if_neg (by omega)] at h
 have h1 := List.mem_of_find?_eq_some h
 have h2 := List.find?_some (p := fun (f : Flight) => decide (pI f.place = (p : Int) + 1)) h
 exact ⟨List.mem_reverse.mp h1, pI_some.mp (of_decide_eq_true h2)⟩
theorem hold_is (fl : List Flight) (p : Nat) : (hold fl ((p : Int) + 1)).isSome = heldP fl p := by
 cases h : hold fl ((p : Int) + 1) with
 | some f =>
  obtain ⟨h1, h2⟩ := hold_some h
  refine Eq.symm (List.any_eq_true.mpr ⟨f, h1, decide_eq_true h2⟩)
 | none =>
  unfold hold at h
  rw [if_neg (by omega)] at h
  refine Eq.symm (List.any_eq_false.mpr fun f hf => ?_)
  have := List.find?_eq_none.mp h f (List.mem_reverse.mpr hf)
  rw [decide_eq_true_eq] at this ⊢
  exact fun z => this (pI_some.mpr z)
theorem held_P {fl : List Flight} {kvs : List (Key × V)} (h : Held fl kvs) (p : Nat) : (valV kvs (Sum.inl ((p : Int) + 1))).isSome = heldP fl p := by
 rw [h, Option.isSome_map]
 exact hold_is fl p
end
end SHP
end
section
namespace SHP
open PySem PySem.Spec PyProof.Rows L2 SH
open Vbahas (Slot Flight State)
section
variable {P : Program} {w : World} {K : PySem.W.Frag} {mg : Str -> Option Value} {base : Heap} {c : Cs}
theorem in_ints (x : Int) : ∀ os : List Int, inV (.int x) (os.map V.int) = os.contains x
 | [] => rfl
 | o :: os => by
  have ih := in_ints x os
  unfold inV at ih ⊢
  rw [List.map_cons, List.any_cons, ih, List.contains_cons]
  show ((o == x) || _) = ((x == o) || _)
  rw [Bool.beq_comm]
theorem flat_ints (os : List Int) : (os.map V.int).all flatV = true := by
 rw [List.all_eq_true]
 intro v hv
 obtain ⟨o, _, rfl⟩ := List.mem_map.mp hv
 rfl
theorem sc_open_places : FSc ["house", "held", "place"] ["house"] (dSc s_open_places) := ⟨rfl, rfl, rfl, by decide +kernel, rfl, by decide +kernel, by decide +kernel⟩
def freeL (sl : List Slot) (fl : List Flight) : List Nat := (List.range sl.length).filter fun p => !heldP fl p
theorem free_len (k : Hs) : (freeL k.sl k.fl).length <= k.ss.length := by
 have := List.length_filter_le (fun p => !heldP k.fl p) (List.range k.sl.length)
 rw [List.length_range] at this
 exact Nat.le_trans this (Nat.le_of_eq (Hs.sl_len k))
def sp_open_places (c : Cs) : Sp := fun vs H Q _ => ∃ (k : Hs) (s : State), vs = [.ref k.h] /\ Sta c H k s /\ RetL H ((freeL k.sl k.fl).map plV) Q
theorem ok_open_places (T : Txt K mg c) (D : DefAt K mg "open_places" s_open_places ["house"]) (O_all_places : Ok P w K mg base 1 "all_places" ["house"] (sp_all_places c)) (O_holders : Ok P w K mg base 1 "holders" ["house"] (sp_holders c)) : Ok P w K mg base 2 "open_places" ["house"] (sp_open_places c) := by
 refine mkOk D sc_open_places (fun vs H Q E h => ?_) fun f cdv A outer s H vs Q E hr h => ?_
 ·obtain ⟨k, s, rfl, _⟩ := h; rfl
 ·obtain ⟨k, s, rfl, hS, q⟩ := h
  have nd := sc_open_places.nd
  have hu := hu_of hr
  refine ⟨_, (bC (ps_set (i := 1) nd rfl (by first | exact Or.inl rfl | exact Or.inr rfl) (pe_fn O_holders hr rfl (aC (pv 0) aN)))
   (bO (pRt (pe_lc (own := [("place", 2)]) rfl nd (pi_list (pe_fn O_all_places hr rfl (aC (pv 0) aN))) (blkOk_by (by show blkC ["house", "held", "place"] (dSc s_open_places) _ _ = true; decide +kernel)) (fun _ _ _ _ _ => (pg_name (i := 2) nd rfl (Or.inl rfl))) (fun _ _ _ _ _ => (pts_one (pt_cmp (pc_dnotin hu (pv 2) (pv 1))))) (fun _ _ _ _ _ => (pv 2)))))), ?_⟩
  refine ⟨_, rfl, k, s, rfl, hS, fun d H1 kvs hd s1 ed hheld => ?_⟩
  have hS1 := hS.same s1
  refine ⟨_, rfl, k, rfl, hS1.at_, hS1.nsl, fun l H2 hl s2 el => ⟨l, rfl, ⟨_, SqL.of el⟩, fun D hD => ?_⟩⟩
  refine lc_pure (xs := List.range k.ss.length) (enc := plV) (p := fun p => !heldP k.fl p) (f := plV) (fun H3 s3 => SqL.of (s3 _ _ el)) hD (by rw [List.length_range]; have := hS.nsl; omega) (fun x H3 N acc hx sm hacc hz hN => ?_) fun H3 sm hD2 => ?_
  ·refine ⟨rfl, _, rfl, _, rfl, d, _, rfl, DGet.k (k := Sum.inl ((x : Int) + 1)) (sm _ _ (s2 _ _ ed)), _, rfl, ?_⟩
   rw [held_P hheld]
   refine iteN (fun e => ?_) fun e => ?_
   ·refine ⟨_, rfl, acc, hacc, lt1000 hz, hN _ (fun b o e' => by rw [uN (nN e' hD)]; exact sm b o e') ?_⟩
    rw [uS, e]; rfl
   ·exact hN _ sm (by rw [e]; exact hacc)
  ·have s3 : Same H H2 := s1.trans s2
   refine q D H3 (s3.free hD) (s3.trans sm) ?_
   rw [hD2]
   unfold freeL
   rw [Hs.sl_len]
theorem sc_open_places_of : FSc ["house", "owners", "place"] ["house", "owners"] (dSc s_open_places_of) := ⟨rfl, rfl, rfl, by decide +kernel, rfl, by decide +kernel, by decide +kernel⟩
def sp_open_places_of (c : Cs) : Sp := fun vs H Q _ => ∃ (k : Hs) (s : State) (o : Addr) (os : List Int), vs = [.ref k.h, .ref o] /\ Sta c H k s /\ H o = some (.lst (os.map V.int)) /\ RetL H ((openL k.sl k.fl os).map plV) Q
theorem ok_open_places_of (T : Txt K mg c) (D : DefAt K mg "open_places_of" s_open_places_of ["house", "owners"]) (O_open_places : Ok P w K mg base 2 "open_places" ["house"] (sp_open_places c))
  (O_slot_at : Ok P w K mg base 1 "slot_at" ["house", "place"] (sp_slot_at c)) : Ok P w K mg base 3 "open_places_of" ["house", "owners"] (sp_open_places_of c) := by
 refine mkOk D sc_open_places_of (fun vs H Q E h => ?_) fun f cdv A outer s H vs Q E hr h => ?_
 ·obtain ⟨k, s, o, os, rfl, _⟩ := h; rfl
 ·obtain ⟨k, s, o, os, rfl, hS, ho, q⟩ := h
  have nd := sc_open_places_of.nd
  refine ⟨_, (bO (pRt (pe_lc (own := [("place", 2)]) rfl nd (pi_list (pe_fn O_open_places hr rfl (aC (pv 0) aN))) (blkOk_by (by show blkC ["house", "owners", "place"] (dSc s_open_places_of) _ _ = true; decide +kernel)) (fun _ _ _ _ _ => (pg_name (i := 2) nd rfl (Or.inl rfl))) (fun _ _ _ _ _ => (pts_one (tCm (show OpR _ (compareOp .In) (rIn K false) from op_in_seq) (pf_owner T (pe_fn O_slot_at hr rfl (aC (pv 0) (aC (pv 2) aN)))) (pv 1) (by with_unfolding_all rfl)))) (fun _ _ _ _ _ => (pv 2))))), ?_⟩
  refine ⟨_, rfl, k, s, rfl, hS, fun D H3 hl s3 hD2 => ⟨D, rfl, ⟨_, SqL.of hD2⟩, fun D' hD' => ?_⟩⟩
  have hS3 := hS.same s3
  refine lc_pure (xs := freeL k.sl k.fl) (enc := plV) (p := fun p => os.contains (oI (oOf k.sl p))) (f := plV) (fun H4 s4 => SqL.of (s4 _ _ hD2)) hD' (by have := free_len k; have := hS.nsl; omega) (fun x H4 N acc hx sm4 hacc hz hN => ?_) fun H4 sm4 hD4 => ?_
  ·have hxl : x < k.ss.length := by
    have := List.mem_range.mp (List.mem_filter.mp hx).1
    rw [Hs.sl_len] at this; exact this
   obtain ⟨a, y, hay⟩ := Hs.get hxl
   have hS4 := hS3.same sm4
   refine ⟨rfl, _, rfl, _, rfl, k, x, a, y, rfl, hS4.at_, hay, a, y, rfl, hS4.at_.slot hay, _, rfl, o, _, rfl, .inl (SqL.of (sm4 _ _ (s3 _ _ ho))), rfl, flat_ints os, _, rfl, ?_⟩
   rw [Hs.oOf_ss hay] at hN
   rw [if_neg Bool.false_ne_true, in_ints]
   refine iteB (fun e => ?_) fun e => ?_
   ·refine ⟨_, rfl, acc, hacc, lt1000 hz, hN _ (fun b o e' => by rw [uN (nN e' hD')]; exact sm4 b o e') ?_⟩
    rw [uS, e]; rfl
   ·exact hN _ sm4 (by rw [e]; exact hacc)
  ·refine q D' H4 (s3.free hD') (s3.trans sm4) ?_
   rw [hD4]; rfl
theorem sc_first_place_from : FSc ["house", "time", "places", "place"] ["house", "time", "places"] (dSc s_first_place_from) := ⟨rfl, rfl, rfl, by decide +kernel, rfl, by decide +kernel, by decide +kernel⟩
def sp_first_place_from (c : Cs) : Sp := fun vs H Q _ => ∃ (k : Hs) (t : Int) (l : Addr) (ps : List Nat), vs = [.ref k.h, .int t, .ref l] /\ At c H k /\ H l = some (.lst (ps.map plV)) /\ (∀ p ∈ ps, p < k.ss.length) /\ Q (.int (pI (ps.find? fun p => decide (t <= tOf k.sl p)))) H
theorem find_take {α : Type} {p : α -> Bool} : ∀ {l : List α} {i : Nat} {x : α}, (∀ y ∈ l.take i, p y = false) -> l[i]? = some x -> p x = true -> l.find? p = some x
 | [], i, x, _, h, _ => by simp at h
 | a :: l, 0, x, _, h, hp => by
  have e : a = x := Option.some.inj h
  subst e
  rw [List.find?_cons, hp]
 | a :: l, i + 1, x, hn, h, hp => by
  rw [List.find?_cons, hn a (by simp)]
  exact find_take (i := i) (fun y hy => hn y (by rw [List.take_succ_cons]; exact List.mem_cons_of_mem _ hy)) (by simpa using h) hp
theorem ok_first_place_from (T : Txt K mg c) (D : DefAt K mg "first_place_from" s_first_place_from ["house", "time", "places"]) (O_slot_at : Ok P w K mg base 1 "slot_at" ["house", "place"] (sp_slot_at c)) : Ok P w K mg base 2 "first_place_from" ["house", "time", "places"] (sp_first_place_from c) := by
 refine mkOk D sc_first_place_from (fun vs H Q E h => ?_) fun f cdv A outer s H vs Q E hr h => ?_
 ·obtain ⟨k, t, l, ps, rfl, _⟩ := h; rfl
 ·obtain ⟨k, t, l, ps, rfl, hA, hl, hps, q⟩ := h
  have nd := sc_first_place_from.nd
  refine ⟨_, (bC (ps_for PassesOwn.never rfl (pi_list (pv 2)) (pg_name (i := 3) nd rfl (Or.inl rfl)) (bO (ps_if (tCm op_ge (pf_time T (pe_fn O_slot_at hr rfl (aC (pv 0) (aC (pv 3) aN)))) (pv 1) (nMk _)) (bO (pRt (pv 3))) bN)))
   (bO (pRt (gIn T.c_NO_PLACE rfl)))), ?_⟩
  refine ⟨_, rfl, l, rfl, ⟨_, SqL.of hl⟩, for_list (K := K) (a := l) (xs := ps.map plV) (fun i σ H2 => ∃ v, σ = [some (.ref k.h), some (.int t), some (.ref l), v] /\ H2 = H /\ ∀ y ∈ ps.take i, decide (t <= tOf k.sl y) = false) ⟨none, rfl, rfl, fun y hy => by simp at hy⟩ ?_ ?_ ?_⟩
  ·rintro i σ H2 _ ⟨v, _, rfl, _⟩
   exact SqL.of hl
  ·rintro i y σ H2 hi ⟨v, rfl, rfl, hn⟩
   rw [List.getElem?_map] at hi
   obtain ⟨p, hp, rfl⟩ := Option.map_eq_some_iff.mp hi
   obtain ⟨a, x, hax⟩ := Hs.get (hps p (List.mem_of_getElem? hp))
   refine ⟨_, rfl, _, rfl, k, p, a, x, rfl, hA, hax, a, x, rfl, hA.slot hax, _, rfl, _, _, rfl, rfl, _, rfl, iteD (fun e => ?_) fun e => ?_⟩
   ·refine ⟨_, rfl, ?_⟩
    have : (ps.find? fun p => decide (t <= tOf k.sl p)) = some p := find_take hn hp (by rw [Hs.tOf_ss hax]; exact decide_eq_true e)
    rw [this] at q
    exact q
   ·refine ⟨_, rfl, rfl, fun z hz => ?_⟩
    rw [List.take_add_one, hp] at hz
    rcases List.mem_append.mp hz with hz | hz
    ·exact hn z hz
    ·have : z = p := by simpa using hz
     rw [this, Hs.tOf_ss hax]
     exact decide_eq_false e
  ·rintro σ H2 ⟨v, rfl, rfl, hn⟩
   rw [List.length_map, List.take_length] at hn
   have : (ps.find? fun p => decide (t <= tOf k.sl p)) = none := List.find?_eq_none.mpr fun z hz => by rw [hn z hz]; exact Bool.false_ne_true
   rw [this] at q
   exact q
theorem late_at {k : Hs} {f : Flight} {p : Nat} {a : Addr} {y : Slot} (hp : f.place = some p) (hay : k.ss[p]? = some (a, y)) : late k.sl f = y.time - f.sched := by
 unfold late
 rw [hp]
 show tOf k.sl p - f.sched = _
 rw [Hs.tOf_ss hay]
theorem told_at {k : Hs} {f : Flight} {p : Nat} {a : Addr} {y : Slot} (hp : f.place = some p) (hay : k.ss[p]? = some (a, y)) : toldL k.sl f = [pI f.place, y.time, late k.sl f] := by
 unfold toldL
 rw [hp]
 show [(p : Int) + 1, tOf k.sl p, _] = _
 rw [Hs.tOf_ss hay]
 rfl
theorem sc_lateness : FSc ["house", "flight"] ["house", "flight"] (dSc s_lateness) := ⟨rfl, rfl, rfl, by decide +kernel, rfl, by decide +kernel, by decide +kernel⟩
def sp_lateness (c : Cs) : Sp := fun vs H Q _ => ∃ (k : Hs) (s : State) (x : Addr × Flight), vs = [.ref k.h, .ref x.1] /\ Sta c H k s /\ x ∈ k.fs /\ Q (.int (late k.sl x.2)) H
theorem ok_lateness (T : Txt K mg c) (D : DefAt K mg "lateness" s_lateness ["house", "flight"]) (O_slot_at : Ok P w K mg base 1 "slot_at" ["house", "place"] (sp_slot_at c)) : Ok P w K mg base 2 "lateness" ["house", "flight"] (sp_lateness c) := by
 refine mkOk D sc_lateness (fun vs H Q E h => ?_) fun f cdv A outer s H vs Q E hr h => ?_
 ·obtain ⟨k, s, x, rfl, _⟩ := h; rfl
 ·obtain ⟨k, s, x, rfl, hS, hx, q⟩ := h
  refine ⟨_, (bC (ps_if (tCm op_eq (pf_place T (pv 1)) (gIn T.c_NO_PLACE rfl) (nMk _)) (bO (pRt pe_int)) bN)
   (bO (pRt (pe_op op_sub (pf_time T (pe_fn O_slot_at hr rfl (aC (pv 0) (aC (pf_place T (pv 1)) aN)))) (pf_planned T (pv 1)))))), ?_⟩
  have hf := hS.at_.hf x hx
  refine ⟨_, rfl, x.1, x.2, rfl, hf, rfl, _, rfl, iteI (fun e => ?_) fun e => ?_⟩
  ·have e2 : late k.sl x.2 = 0 := by unfold late; rw [pI_zero.mp e]
   rw [e2] at q
   exact q
  ·cases hp : x.2.place with
   | none => exact (e (by rw [hp]; rfl)).elim
   | some p =>
    obtain ⟨a, y, hay⟩ := hS.place hx hp
    refine ⟨_, rfl, _, rfl, x.1, x.2, rfl, hf, k, p, a, y, (by show [V.ref k.h, V.int (pI x.2.place)] ++ [] = _; rw [hp]; rfl), hS.at_, hay, a, y, rfl, hS.at_.slot hay, _, rfl, x.1, x.2, rfl, hf, _, _, rfl, rfl, ?_⟩
    rw [late_at hp hay] at q
    exact q
theorem sc_carrier_cost : FSc ["house", "carrier", "flight"] ["house", "carrier"] (dSc s_carrier_cost) := ⟨rfl, rfl, rfl, by decide +kernel, rfl, by decide +kernel, by decide +kernel⟩
def sp_carrier_cost (c : Cs) : Sp := fun vs H Q _ => ∃ (k : Hs) (s : State) (cc : Int), vs = [.ref k.h, .int cc] /\ Sta c H k s /\ ∀ H', Same H H' -> Q (.int (costL k.sl k.fl cc)) H'
theorem livC_cost (k : Hs) (cc : Int) : ((k.livC cc).map fun x => x.2.weight * late k.sl x.2).sum = costL k.sl k.fl cc := by
 unfold costL Hs.livC Hs.liv Hs.fl
 rw [List.filter_map, List.filter_map, List.map_map]
 rfl
theorem ok_carrier_cost (T : Txt K mg c) (D : DefAt K mg "carrier_cost" s_carrier_cost ["house", "carrier"]) (O_flights_of : Ok P w K mg base 2 "flights_of" ["house", "carrier"] (sp_flights_of c)) (O_lateness : Ok P w K mg base 2 "lateness" ["house", "flight"] (sp_lateness c)) :
  Ok P w K mg base 3 "carrier_cost" ["house", "carrier"] (sp_carrier_cost c) := by
 refine mkOk D sc_carrier_cost (fun vs H Q E h => ?_) fun f cdv A outer s H vs Q E hr h => ?_
 ·obtain ⟨k, s, cc, rfl, _⟩ := h; rfl
 ·obtain ⟨k, s, cc, rfl, hS, q⟩ := h
  have nd := sc_carrier_cost.nd
  refine ⟨_, (bO (pRt (pe_callB (cr_sum rfl) (by rfl) T.b_sum (by decide +kernel) (aC (pe_lc (own := [("flight", 2)]) rfl nd (pi_list (pe_fn O_flights_of hr rfl (aC (pv 0) (aC (pv 1) aN)))) (blkOk_by (by show blkC ["house", "carrier", "flight"] (dSc s_carrier_cost) _ _ = true; decide +kernel)) (fun _ _ _ _ _ => (pg_name (i := 2) nd rfl (Or.inl rfl))) (fun _ _ _ _ _ => pts_nil) (fun _ _ _ _ _ => (pe_op op_mul (pf_weight T (pv 2)) (pe_fn O_lateness hr rfl (aC (pv 0) (aC (pv 2) aN)))))) aN)))), ?_⟩
  refine ⟨_, rfl, _, rfl, k, s, cc, rfl, hS, fun l H1 hl s1 el => ⟨l, rfl, ⟨_, SqL.of el⟩, fun D hD => ?_⟩⟩
  refine lc_pure (xs := k.livC cc) (enc := refV) (p := fun _ => true) (f := fun x => V.int (x.2.weight * late k.sl x.2)) (fun H2 s2 => SqL.of (s2 _ _ el)) hD (by have := liv_len k; have := hS.nfl; have : (k.livC cc).length <= k.liv.length := List.length_filter_le ..; omega) (fun x H2 N acc hx sm hacc hz hN => ?_) fun H2 sm hD2 => ?_
  ·have hx' : x ∈ k.fs := (List.mem_filter.mp (List.mem_filter.mp hx).1).1
   have hS2 := (hS.same s1).same sm
   have hfo := hS.rel.fok (Hs.mem_fl hx')
   refine ⟨rfl, ⟨_, rfl, x.1, x.2, rfl, hS2.at_.hf x hx', _, rfl, _, rfl, k, s, x, rfl, hS2, hx', _, _, rfl, rfl, .inl ⟨by have := hfo.w0; omega, by have := hfo.w1; omega⟩, acc, hacc, lt1000 hz, hN _ (fun b o e' => by rw [uN (nN e' hD)]; exact sm b o e') ?_⟩⟩
   rw [uS]; rfl
  ·refine ⟨D, (k.livC cc).map fun x => x.2.weight * late k.sl x.2, rfl, SqL.of ?_, ?_⟩
   ·rw [hD2, List.filter_eq_self.mpr fun _ _ => rfl, List.map_map]; rfl
   ·rw [livC_cost]
    exact q _ (s1.trans sm)
theorem sc_told_slot : FSc ["house", "flight"] ["house", "flight"] (dSc s_told_slot) := ⟨rfl, rfl, rfl, by decide +kernel, rfl, by decide +kernel, by decide +kernel⟩
def sp_told_slot (c : Cs) : Sp := fun vs H Q _ => ∃ (k : Hs) (s : State) (x : Addr × Flight), vs = [.ref k.h, .ref x.1] /\ Sta c H k s /\ x ∈ k.fs /\ RetL H ((toldL k.sl x.2).map V.int) Q
theorem ok_told_slot (T : Txt K mg c) (D : DefAt K mg "told_slot" s_told_slot ["house", "flight"]) (O_slot_at : Ok P w K mg base 1 "slot_at" ["house", "place"] (sp_slot_at c)) (O_lateness : Ok P w K mg base 2 "lateness" ["house", "flight"] (sp_lateness c)) : Ok P w K mg base 3 "told_slot" ["house", "flight"] (sp_told_slot c) := by
 refine mkOk D sc_told_slot (fun vs H Q E h => ?_) fun f cdv A outer s H vs Q E hr h => ?_
 ·obtain ⟨k, s, x, rfl, _⟩ := h; rfl
 ·obtain ⟨k, s, x, rfl, hS, hx, q⟩ := h
  refine ⟨_, (bC (ps_if (tCm op_eq (pf_place T (pv 1)) (gIn T.c_NO_PLACE rfl) (nMk _)) (bO (pRt (pe_lst (aC pe_int (aC pe_int (aC pe_int aN)))))) bN)
   (bO (pRt (pe_lst (aC (pf_place T (pv 1)) (aC (pf_time T (pe_fn O_slot_at hr rfl (aC (pv 0) (aC (pf_place T (pv 1)) aN)))) (aC (pe_fn O_lateness hr rfl (aC (pv 0) (aC (pv 1) aN))) aN))))))), ?_⟩
  have hf := hS.at_.hf x hx
  refine ⟨_, rfl, x.1, x.2, rfl, hf, rfl, _, rfl, iteI (fun e => ?_) fun e => ?_⟩
  ·refine ⟨zl3, ?_⟩
   have e2 : toldL k.sl x.2 = [0, 0, 0] := by unfold toldL; rw [pI_zero.mp e]
   rw [e2] at q
   exact q.of (Same.refl H)
  ·cases hp : x.2.place with
   | none => exact (e (by rw [hp]; rfl)).elim
   | some p =>
    obtain ⟨a, y, hay⟩ := hS.place hx hp
    refine ⟨_, rfl, x.1, x.2, rfl, hf, _, rfl, _, rfl, x.1, x.2, rfl, hf, k, p, a, y, (by show [V.ref k.h, V.int (pI x.2.place)] ++ [] = _; rw [hp]; rfl), hS.at_, hay, a, y, rfl, hS.at_.slot hay, _, rfl, _, rfl, k, s, x, rfl, hS, hx, zl3, ?_⟩
    rw [told_at hp hay] at q
    exact q.of (Same.refl H)
end
end SHP
end
section
namespace SHP
open PySem PySem.Spec PyProof.Rows L2 SH
open Vbahas (Slot Flight State)
structure Fra (H H' : Hp) (k k' : Hs) : Prop where
 h : k'.h = k.h
 stay : ∀ b, H' b = none -> H b = none
 out : ∀ b o, H b = some o -> ¬ k.foot b -> H' b = some o
 new : ∀ b, k'.foot b -> k.foot b \/ H b = none
theorem Fra.refl (H : Hp) (k : Hs) : Fra H H k k := ⟨rfl, fun _ h => h, fun _ _ e _ => e, fun _ h => .inl h⟩
theorem Fra.same {H H' : Hp} (k : Hs) (e : Same H H') : Fra H H' k k := ⟨rfl, fun _ h => e.free h, fun b o h _ => e b o h, fun _ h => .inl h⟩
theorem Fra.trans {H H1 H2 : Hp} {k k1 k2 : Hs} (a : Fra H H1 k k1) (b : Fra H1 H2 k1 k2) : Fra H H2 k k2 :=
 by
 refine ⟨b.h.trans a.h, fun x h => a.stay x (b.stay x h), ?_, ?_⟩
 ·exact fun x o e hn => b.out x o (a.out x o e hn) fun z => (a.new x z).elim hn fun z' => by rw [z'] at e; cases e
 ·intro x hx
  rcases b.new x hx with z | z
  ·exact a.new x z
  ·exact .inr (a.stay x z)
theorem Fra.put {H H' : Hp} {k k' : Hs} {a : Addr} (ha : k.foot a) (hs : ∃ o, H' a = some o) (ho : ∀ b, b ≠ a -> H' b = H b) (hh : k'.h = k.h) (hf : ∀ b, k'.foot b -> k.foot b) : Fra H H' k k' :=
 ⟨hh, fun b h => by
   by_cases z : b = a
   ·obtain ⟨o, e⟩ := hs
    rw [z, e] at h; cases h
   ·rw [<- ho b z]; exact h, fun b o e hn => by rw [ho b fun z => hn (by rw [z]; exact ha)]; exact e, fun b hb => .inl (hf b hb)⟩
theorem foot_slot {k : Hs} {p : Nat} {a : Addr} {x : Slot} (h : k.ss[p]? = some (a, x)) : k.foot a := .inr (.inr (.inr (.inl (List.mem_map.mpr ⟨_, List.mem_of_getElem? h, rfl⟩))))
theorem foot_flight {k : Hs} {p : Nat} {a : Addr} {f : Flight} (h : k.fs[p]? = some (a, f)) : k.foot a := .inr (.inr (.inr (.inr (List.mem_map.mpr ⟨_, List.mem_of_getElem? h, rfl⟩))))
theorem foot_setS {k : Hs} {p : Nat} {a : Addr} {x x' : Slot} (h : k.ss[p]? = some (a, x)) : ∀ b, ({ k with ss := k.ss.set p (a, x') } : Hs).foot b -> k.foot b := fun b hb => by
 rcases hb with z | z | z | z | z
 ·exact .inl z
 ·exact .inr (.inl z)
 ·exact .inr (.inr (.inl z))
 ·have z : b ∈ (k.ss.set p (a, x')).map (·.1) := z
  rw [map_fst_set h] at z
  exact .inr (.inr (.inr (.inl z)))
 ·exact .inr (.inr (.inr (.inr z)))
theorem foot_setF {k : Hs} {p : Nat} {a : Addr} {f f' : Flight} (h : k.fs[p]? = some (a, f)) : ∀ b, ({ k with fs := k.fs.set p (a, f') } : Hs).foot b -> k.foot b := fun b hb => by
 rcases hb with z | z | z | z | z
 ·exact .inl z
 ·exact .inr (.inl z)
 ·exact .inr (.inr (.inl z))
 ·exact .inr (.inr (.inr (.inl z)))
 ·have z : b ∈ (k.fs.set p (a, f')).map (·.1) := z
  rw [map_fst_set h] at z
  exact .inr (.inr (.inr (.inr z)))
def Ans (c : Cs) (H : Hp) (k : Hs) (r : State × List Int) (Q : VK) : Prop := ∀ k' H' l, Sta c H' k' r.1 -> Fra H H' k k' -> H' l = some (.lst (r.2.map V.int)) -> H l = none -> ¬ k'.foot l -> Q (.ref l) H'
section
variable {c : Cs} {H H1 : Hp} {k k1 : Hs} {s : State} {r : State × List Int} {Q : VK}
theorem foot_none (S : Sta c H k s) {l : Addr} (h : H l = none) : ¬ k.foot l := fun z => by
 obtain ⟨o, e⟩ := S.at_.there z
 rw [h] at e; cases e
theorem Ans.fin (A : Ans c H k r Q) (S : Sta c H1 k1 r.1) (F : Fra H H1 k k1) : RetL H1 (r.2.map V.int) Q := fun l H' hl sm el =>
 A k1 H' l (S.same sm) (F.trans (Fra.same k1 sm)) el (F.stay l hl) (foot_none S hl)
theorem Ans.ro (A : Ans c H k r Q) (S : Sta c H k s) (e : r.1 = s) (sm : Same H H1) : RetL H1 (r.2.map V.int) Q := A.fin (by rw [e]; exact S.same sm) (Fra.same k sm)
theorem dget (i : Int) : ∀ fs : List (Addr × Flight), valV (fs.map fun x => ((Sum.inl x.2.id : Key), V.ref x.1)) (Sum.inl i) = (fs.find? fun x => decide (x.2.id = i)).map fun x => V.ref x.1
 | [] => rfl
 | x :: fs => by
  rw [List.map_cons, List.find?_cons]
  by_cases h : x.2.id = i
  ·rw [valV_pos (by rw [h]), decide_eq_true h]; rfl
  ·rw [valV_neg (fun z => h (Sum.inl.inj z)), decide_eq_false h]
   exact dget i fs
theorem Sta.look (S : Sta c H k s) (i : Int) : ((k.fs.find? fun x => decide (x.2.id = i)) = none /\ Vbahas.flightOf s i = none) \/
  ∃ (j : Nat) (a : Addr) (f : Flight), k.fs[j]? = some (a, f) /\ f.id = i /\ (k.fs.find? fun x => decide (x.2.id = i)) = some (a, f) /\ Vbahas.flightOf s i = some f := by
 cases h : k.fs.find? fun x => decide (x.2.id = i) with
 | none =>
  refine .inl ⟨rfl, S.rel.nofind fun f hf e => ?_⟩
  obtain ⟨x, hx, rfl⟩ := List.mem_map.mp hf
  have := List.find?_eq_none.mp h x hx
  simp [e] at this
 | some x =>
  obtain ⟨a, f⟩ := x
  have hm := List.mem_of_find?_eq_some h
  have hi : f.id = i := of_decide_eq_true (List.find?_some (p := fun (x : Addr × Flight) => decide (x.2.id = i)) h)
  obtain ⟨j, hj⟩ := List.getElem?_of_mem hm
  refine .inr ⟨j, a, f, hj, hi, rfl, ?_⟩
  rw [<- hi]
  exact S.rel.find (Hs.mem_fl hm)
theorem dec_int' (i j : Int) : decide (V.int i = V.int j) = decide (i = j) := decide_eq_decide.mpr ⟨fun e => V.int.inj e, fun e => by rw [e]⟩
theorem Sta.putF (S : Sta c H k s) {j : Nat} {a : Addr} {f f' : Flight} (h : k.fs[j]? = some (a, f)) (hi : f'.id = f.id) (ha : IsFl c.F H1 a f') (ho : ∀ b, b ≠ a -> H1 b = H b) (w : Wf (Vbahas.setFlight s f')) :
  Sta c H1 { k with fs := k.fs.set j (a, f') } (Vbahas.setFlight s f') /\ Fra H H1 k { k with fs := k.fs.set j (a, f') } := by
 refine ⟨⟨S.at_.setF h hi ha ho, ?_⟩, Fra.put (foot_flight h) (let ⟨d, e⟩ := ha; ⟨_, e⟩) ho rfl (foot_setF h)⟩
 have e : ({ k with fs := k.fs.set j (a, f') } : Hs).fl = k.fl.map (SH.putF f') := by
  show (k.fs.set j (a, f')).map (·.2) = _
  rw [List.map_set]
  exact set_putF S.rel.ids (by unfold Hs.fl; rw [List.getElem?_map, h]; rfl) hi
 show SH.Rel k.sl ({ k with fs := k.fs.set j (a, f') } : Hs).fl k.g _
 rw [e]
 exact S.rel.put w
end
structure MkOk (P : Program) (w : World) (K : PySem.W.Frag) (mg : Str -> Option Value) (base : Heap) (k : Nat) (x : Str) (C : Addr) (ps : List Str) (sp : Sp) : Prop where
 ex : ∃ f fd, Mk K C f /\ FnOk P w K mg base CX0 k f fd ps sp /\ mg x = some (.ref C) /\ Binds K fd ps []
structure InitAt (K : PySem.W.Frag) (mg : Str -> Option Value) (x qual : Str) (C : Addr) (st : Stmt) (ps : List Str) : Prop where
 ex : ∃ f fd, Fun K "__init__" qual st f fd /\ Mk K C f /\ mg x = some (.ref C) /\ Binds K fd ps []
section
variable {P : Program} {w : World} {K : PySem.W.Frag} {mg : Str -> Option Value} {base : Heap}
theorem mkMk {x qual : Str} {C : Addr} {st : Stmt} {N ps : List Str} {k : Nat} {sp : Sp} (D : InitAt K mg x qual C st ps) (S : FSc N ps (dSc st)) (len : ∀ vs H Q E, sp vs H Q E -> vs.length = ps.length)
  (hbody : ∀ (f : Addr) (cdv : Value) (A : Around) (outer : List Env) (s : Shared) (H : Hp) (vs : List V) (Q : VK) (E : XK), Room k (A.deeper (envOfC qual (dSc st) s.heap.objs.size f cdv)) -> sp vs H Q E ->
   ∃ t, PSs (cxOf CX0 P w K mg base N qual (dSc st) f cdv A outer s H E).nox (dBo st) t /\ t { nx := fun _ H' => Q .non H', rt := Q } (start N vs) H) : MkOk P w K mg base (k + 1) x C ps sp := by
 obtain ⟨f, fd, F, M, hm, hb⟩ := D.ex
 exact ⟨f, fd, M, F.ok S len fun cdv A outer s H vs Q E hr h => hbody f cdv A outer s H vs Q E hr h, hm, hb⟩
end
section
variable {X : Cx} {x : Str} {p pos : Pos} {e : Expr} {es : List Expr} {t : TA} {j k : Nat} {ps : List Str} {sp : Sp} {C : Addr}
theorem pe_new (O : MkOk X.prog X.w X.K X.mg X.base k x C ps sp) (hr : Room j X.A) (hg : Gl X x) (ha : PA X (e :: es) t) (hle : k + 1 <= j := by decide) (hdb : (x == ("__debug__" : Str)) = false := by decide)
  (he : starEach (e :: es) X.env = (false, eval e X.env) :: starEach es X.env := by rfl) (hpl : (backTo pos (starEach es X.env)).any (·.1) = false := by rfl) : PE X (.Call (.Name x p) (e :: es) [] pos) (tMake C sp [] E0 t) := by
 obtain ⟨f, fd, M, F, hm, hb⟩ := O.ex
 exact pe_make M F (hr.mono hle) hg hm hb .nil pass0 ha hdb he hpl
theorem pe_new0 (O : MkOk X.prog X.w X.K X.mg X.base k x C ps sp) (hr : Room j X.A) (hg : Gl X x) (hle : k + 1 <= j := by decide) (hdb : (x == ("__debug__" : Str)) = false := by decide) : PE X (.Call (.Name x p) [] [] pos) (tMake C sp [] E0 tNil) := by
 obtain ⟨f, fd, M, F, hm, hb⟩ := O.ex
 exact pe_make0 M F (hr.mono hle) hg hm hb .nil pass0 hdb
end
section
variable {P : Program} {w : World} {K : PySem.W.Frag} {mg : Str -> Option Value} {base : Heap} {c : Cs}
theorem sc_Slot_init : FSc ["self", "time"] ["self", "time"] (dSc s_Slot_init) := ⟨rfl, rfl, rfl, by decide +kernel, rfl, by decide +kernel, by decide +kernel⟩
def sp_Slot (c : Cs) : Sp := fun vs H Q _ => ∃ (p dx : Addr) (t : Int), vs = [.ref p, .int t] /\ H p = some (.ins c.S dx []) /\ ∀ H', IsSl c.S H' p { time := t, owner := none } -> (∀ b, b ≠ p -> H' b = H b) -> Q .non H'
theorem ok_Slot (T : Txt K mg c) (D : InitAt K mg "Slot" "Slot.__init__" c.S s_Slot_init ["self", "time"]) : MkOk P w K mg base 1 "Slot" c.S ["self", "time"] (sp_Slot c) := by
 refine mkMk D sc_Slot_init (fun vs H Q E h => ?_) fun f cdv A outer s H vs Q E hr h => ?_
 ·obtain ⟨p, dx, t, rfl, _⟩ := h; rfl
 ·obtain ⟨p, dx, t, rfl, hp, q⟩ := h
  refine ⟨_, bC (ps_fld (pv 0) (pv 1) rfl) (bO (ps_fld (pv 0) (gIn T.c_NOBODY rfl) rfl)), ?_⟩
  refine ⟨_, rfl, _, rfl, p, c.S, dx, _, rfl, hp, T.clS, T.nTime, (by show 0 < 1000; decide), _, rfl, p, c.S, dx, _, rfl, uS, T.clS, T.nOwner, (by show 1 < 1000; decide), q _ ⟨dx, ?_⟩ fun b hb => by rw [uN hb, uN hb]⟩
  rw [uS]; rfl
theorem sc_Flight_init : FSc ["self", "number", "carrier", "planned", "weight"] ["self", "number", "carrier", "planned", "weight"] (dSc s_Flight_init) := ⟨rfl, rfl, rfl, by decide +kernel, rfl, by decide +kernel, by decide +kernel⟩
def newF (i cc t wt : Int) : Flight := { id := i, carrier := cc, sched := t, ready := t, weight := wt, exempt := false, gone := false, place := none }
def sp_Flight (c : Cs) : Sp := fun vs H Q _ => ∃ (p dx : Addr) (i cc t wt : Int), vs = [.ref p, .int i, .int cc, .int t, .int wt] /\ H p = some (.ins c.F dx []) /\ ∀ H', IsFl c.F H' p (newF i cc t wt) -> (∀ b, b ≠ p -> H' b = H b) -> Q .non H'
theorem ok_Flight (T : Txt K mg c) (D : InitAt K mg "Flight" "Flight.__init__" c.F s_Flight_init ["self", "number", "carrier", "planned", "weight"]) : MkOk P w K mg base 1 "Flight" c.F ["self", "number", "carrier", "planned", "weight"] (sp_Flight c) := by
 refine mkMk D sc_Flight_init (fun vs H Q E h => ?_) fun f cdv A outer s H vs Q E hr h => ?_
 ·obtain ⟨p, dx, i, cc, t, wt, rfl, _⟩ := h; rfl
 ·obtain ⟨p, dx, i, cc, t, wt, rfl, hp, q⟩ := h
  refine ⟨_, (bC (ps_fld (pv 0) (pv 1) rfl)
   (bC (ps_fld (pv 0) (pv 2) rfl)
   (bC (ps_fld (pv 0) (pv 3) rfl)
   (bC (ps_fld (pv 0) (pv 3) rfl)
   (bC (ps_fld (pv 0) (pv 4) rfl)
   (bC (ps_fld (pv 0) pe_bl rfl)
   (bC (ps_fld (pv 0) pe_bl rfl)
   (bO (ps_fld (pv 0) (gIn T.c_NO_PLACE rfl) rfl))))))))), ?_⟩
  refine ⟨_, rfl, _, rfl, p, c.F, dx, _, rfl, hp, T.clF, T.nNumber, (by show 0 < 1000; decide), ?_⟩
  refine ⟨_, rfl, _, rfl, p, c.F, dx, _, rfl, uS, T.clF, T.nCarrier, (by show 1 < 1000; decide), ?_⟩
  refine ⟨_, rfl, _, rfl, p, c.F, dx, _, rfl, uS, T.clF, T.nPlanned, (by show 2 < 1000; decide), ?_⟩
  refine ⟨_, rfl, _, rfl, p, c.F, dx, _, rfl, uS, T.clF, T.nReady, (by show 3 < 1000; decide), ?_⟩
  refine ⟨_, rfl, _, rfl, p, c.F, dx, _, rfl, uS, T.clF, T.nWeight, (by show 4 < 1000; decide), ?_⟩
  refine ⟨_, rfl, p, c.F, dx, _, rfl, uS, T.clF, T.nExempt, (by show 5 < 1000; decide), ?_⟩
  refine ⟨_, rfl, p, c.F, dx, _, rfl, uS, T.clF, T.nCancelled, (by show 6 < 1000; decide), ?_⟩
  refine ⟨_, rfl, p, c.F, dx, _, rfl, uS, T.clF, T.nPlace, (by show 7 < 1000; decide), ?_⟩
  refine q _ ⟨dx, ?_⟩ fun b hb => by simp only [uN hb]
  rw [uS]; rfl
theorem sc_House_init : FSc ["self"] ["self"] (dSc s_House_init) := ⟨rfl, rfl, rfl, by decide +kernel, rfl, by decide +kernel, by decide +kernel⟩
def sp_House (c : Cs) : Sp := fun vs H Q _ => ∃ (p dx : Addr), vs = [.ref p] /\ H p = some (.ins c.H dx []) /\ ∀ H' la da, (∃ d, H' p = some (.ins c.H d (hfs la da false))) -> H' la = some (.lst []) -> H' da = some (.dK []) -> H la = none -> H da = none -> (∀ b o, b ≠ p -> H b = some o -> H' b = some o) -> Q .non H'
theorem ok_House (T : Txt K mg c) (D : InitAt K mg "House" "House.__init__" c.H s_House_init ["self"]) : MkOk P w K mg base 1 "House" c.H ["self"] (sp_House c) := by
 refine mkMk D sc_House_init (fun vs H Q E h => ?_) fun f cdv A outer s H vs Q E hr h => ?_
 ·obtain ⟨p, dx, rfl, _⟩ := h; rfl
 ·obtain ⟨p, dx, rfl, hp, q⟩ := h
  refine ⟨_, (bC (ps_fld (pv 0) (pe_lst aN) rfl)
   (bC (ps_fld (pv 0) pe_dnewK rfl)
   (bO (ps_fld (pv 0) pe_bl rfl)))), ?_⟩
  refine ⟨Nat.zero_le _, fun la hla => ?_⟩
  have n1 : p ≠ la := nN hp hla
  refine ⟨_, rfl, p, c.H, dx, _, rfl, (by rw [uN n1]; exact hp), T.clH, T.nSlots, (by show 0 < 1000; decide), fun da hda => ?_⟩
  have n2 : p ≠ da := nN (o := .ins c.H dx _) uS hda
  have hda1 : (upd H la (.lst [])) da = none := by rw [uN (Ne.symm n2)] at hda; exact hda
  have n3 : la ≠ da := nN (o := .lst []) uS hda1
  have hda0 : H da = none := by rw [uN (Ne.symm n3)] at hda1; exact hda1
  refine ⟨_, rfl, p, c.H, dx, _, rfl, (by rw [uN n2, uS]), T.clH, T.nFlights, (by show 1 < 1000; decide), ?_⟩
  refine ⟨_, rfl, p, c.H, dx, _, rfl, uS, T.clH, T.nGiven, (by show 2 < 1000; decide), ?_⟩
  refine q _ la da ⟨dx, ?_⟩ ?_ ?_ hla hda0 fun b o hb e => ?_
  ·rw [uS]; rfl
  ·rw [uN (Ne.symm n1), uN (Ne.symm n1), uN n3, uN (Ne.symm n1), uS]
  ·rw [uN (Ne.symm n2), uN (Ne.symm n2), uS]
  ·rw [uN hb, uN hb, uN (nN e hda0), uN hb, uN (nN e hla)]; exact e
end
end SHP
end
section
namespace SHP
open PySem PySem.Spec PyProof.Rows L2 SH
open Vbahas (Slot Flight State)
section
variable {P : Program} {w : World} {K : PySem.W.Frag} {mg : Str -> Option Value} {base : Heap} {c : Cs}
theorem sc_set_exempt : FSc ["house", "number", "yes", "flight"] ["house", "number", "yes"] (dSc s_set_exempt) := ⟨rfl, rfl, rfl, by decide +kernel, rfl, by decide +kernel, by decide +kernel⟩
def sp_set_exempt (c : Cs) : Sp := fun vs H Q _ => ∃ (k : Hs) (s : State) (i y : Int), vs = [.ref k.h, .int i, .int y] /\ Sta c H k s /\ Vbahas.inRange (.exempt i y) = true /\ Ans c H k (Vbahas.step s (.exempt i y)) Q
theorem ok_set_exempt (T : Txt K mg c) (D : DefAt K mg "set_exempt" s_set_exempt ["house", "number", "yes"]) : Ok P w K mg base 1 "set_exempt" ["house", "number", "yes"] (sp_set_exempt c) := by
 refine mkOk D sc_set_exempt (fun vs H Q E h => ?_) fun f cdv A outer s H vs Q E hr h => ?_
 ·obtain ⟨k, s, i, y, rfl, _⟩ := h; rfl
 ·obtain ⟨k, s, i, y, rfl, hS, hin, q⟩ := h
  have nd := sc_set_exempt.nd
  have hu := hu_of hr
  have hA := hS.at_
  refine ⟨_, (bC (ps_if (pt_cmp (pc_dnotin hu (pv 1) (pf_flights T (pv 0)))) (bO (pRt (pe_lst (aC (gIn T.c_NOT_THERE rfl) aN)))) bN)
   (bC (ps_set (i := 3) nd rfl (by first | exact Or.inl rfl | exact Or.inr rfl) (pe_dget hu (pf_flights T (pv 0)) (pv 1) (fun _ _ => rfl)))
   (bC (sf_exempt T (pv 3) (pe_cmpR op_eq (pv 2) pe_int (nMk _)) rfl)
   (bO (pRt (pe_lst (aC pe_int aN))))))), ?_⟩
  have hwf := step_wf hS.rel.wf hin
  refine ⟨_, rfl, _, rfl, k.h, (k.la, k.da, k.g), rfl, hA.hh, k.da, _, rfl, DGet.k (k := Sum.inl i) hA.hd, _, rfl, ?_⟩
  rw [dget]
  rcases hS.look i with ⟨hn, hfn⟩ | ⟨j, a, f, hj, hi, hfd, hfo⟩
  ·have e : Vbahas.step s (.exempt i y) = (s, [-5]) := by simp only [Vbahas.step, hfn]
   rw [e] at q
   rw [hn]
   exact ⟨zl1, (q.ro hS rfl (Same.refl H)).of (Same.refl H)⟩
  ·have e : Vbahas.step s (.exempt i y) = (Vbahas.setFlight s { f with exempt := decide (y = 1) }, [0]) := by simp only [Vbahas.step, hfo]
   rw [e] at q hwf
   rw [hfd]
   refine ⟨_, rfl, k.h, (k.la, k.da, k.g), rfl, hA.hh, _, rfl, k.da, V.ref a, rfl, (by have := DGet.k (k := Sum.inl i) hA.hd; rw [dget, hfd] at this; exact this), ?_⟩
   refine ⟨_, rfl, rfl, _, rfl, a, f, { f with exempt := decide (V.int y = V.int 1) }, rfl, hA.flight hj, rfl, fun H1 ha ho => ?_⟩
   rw [dec_int'] at ha
   obtain ⟨S1, F1⟩ := hS.putF hj (f' := { f with exempt := decide (y = 1) }) rfl ha ho hwf
   exact ⟨zl1, (q.fin S1 F1).of (Same.refl H1)⟩
theorem sc_cancel_flight : FSc ["house", "number", "flight", "had"] ["house", "number"] (dSc s_cancel_flight) := ⟨rfl, rfl, rfl, by decide +kernel, rfl, by decide +kernel, by decide +kernel⟩
def sp_cancel_flight (c : Cs) : Sp := fun vs H Q _ => ∃ (k : Hs) (s : State) (i : Int), vs = [.ref k.h, .int i] /\ Sta c H k s /\ Vbahas.inRange (.cancel i) = true /\ Ans c H k (Vbahas.step s (.cancel i)) Q
theorem told_len (sl : List Slot) (f : Flight) : (toldL sl f).length = 3 := by
 unfold toldL
 split <;> rfl
theorem ok_cancel_flight (T : Txt K mg c) (D : DefAt K mg "cancel_flight" s_cancel_flight ["house", "number"]) (O_told_slot : Ok P w K mg base 3 "told_slot" ["house", "flight"] (sp_told_slot c)) : Ok P w K mg base 4 "cancel_flight" ["house", "number"] (sp_cancel_flight c) := by
 refine mkOk D sc_cancel_flight (fun vs H Q E h => ?_) fun f cdv A outer s H vs Q E hr h => ?_
 ·obtain ⟨k, s, i, rfl, _⟩ := h; rfl
 ·obtain ⟨k, s, i, rfl, hS, hin, q⟩ := h
  have nd := sc_cancel_flight.nd
  have hu := hu_of hr
  have hA := hS.at_
  refine ⟨_, (bC (ps_if (pt_cmp (pc_dnotin hu (pv 1) (pf_flights T (pv 0)))) (bO (pRt (pe_lst (aC (gIn T.c_NOT_THERE rfl) aN)))) bN)
   (bC (ps_set (i := 2) nd rfl (by first | exact Or.inl rfl | exact Or.inr rfl) (pe_dget hu (pf_flights T (pv 0)) (pv 1) (fun _ _ => rfl)))
   (bC (ps_if (pt_val (pf_cancelled T (pv 2))) (bO (pRt (pe_lst (aC (gIn T.c_CANCELLED_OR_WITHOUT_SLOT rfl) aN)))) bN)
   (bC (ps_set (i := 3) nd rfl (by first | exact Or.inl rfl | exact Or.inr rfl) (pe_fn O_told_slot hr rfl (aC (pv 0) (aC (pv 2) aN))))
   (bC (sf_cancelled T (pv 2) pe_bl rfl)
   (bC (sf_place T (pv 2) (gIn T.c_NO_PLACE rfl) rfl)
   (bO (pRt (pe_op op_cat (pe_lst (aC pe_int aN)) (pv 3)))))))))), ?_⟩
  have hwf := step_wf hS.rel.wf hin
  refine ⟨_, rfl, _, rfl, k.h, (k.la, k.da, k.g), rfl, hA.hh, k.da, _, rfl, DGet.k (k := Sum.inl i) hA.hd, _, rfl, ?_⟩
  rw [dget]
  rcases hS.look i with ⟨hn, hfn⟩ | ⟨j, a, f, hj, hi, hfd, hfo⟩
  ·have e : Vbahas.step s (.cancel i) = (s, [-5]) := by simp only [Vbahas.step, hfn]
   rw [e] at q
   rw [hn]
   exact ⟨zl1, (q.ro hS rfl (Same.refl H)).of (Same.refl H)⟩
  ·rw [hfd]
   refine ⟨_, rfl, k.h, (k.la, k.da, k.g), rfl, hA.hh, _, rfl, k.da, V.ref a, rfl, (by have := DGet.k (k := Sum.inl i) hA.hd; rw [dget, hfd] at this; exact this), ?_⟩
   refine ⟨_, rfl, a, f, rfl, hA.flight hj, _, rfl, iteB (fun e1 => ?_) fun e1 => ?_⟩
   ·have e : Vbahas.step s (.cancel i) = (s, [-9]) := by simp only [Vbahas.step, hfo, e1, if_true]
    rw [e] at q
    exact ⟨zl1, (q.ro hS rfl (Same.refl H)).of (Same.refl H)⟩
   ·have e : Vbahas.step s (.cancel i) = (Vbahas.setFlight s { f with gone := true, place := none }, 0 :: toldL k.sl f) := by
     simp only [Vbahas.step, hfo, e1, Bool.false_eq_true, if_false, told_eq, hS.rel.sl]
    rw [e] at q hwf
    refine ⟨_, rfl, _, rfl, k, s, (a, f), rfl, hS, List.mem_of_getElem? hj, fun l H1 hl s1 el => ?_⟩
    have hS1 := hS.same s1
    refine ⟨_, rfl, a, f, { f with gone := true }, rfl, hS1.at_.flight hj, rfl, fun H2 ha2 ho2 => ?_⟩
    refine ⟨_, rfl, a, { f with gone := true }, { f with gone := true, place := none }, rfl, ha2, rfl, fun H3 ha3 ho3 => ?_⟩
    have nl : l ≠ a := Ne.symm (nN (hA.flight hj).choose_spec hl)
    obtain ⟨S3, F3⟩ := hS1.putF hj (f' := { f with gone := true, place := none }) rfl ha3 (fun b hb => by rw [ho3 b hb, ho2 b hb]) hwf
    have el3 : H3 l = some (.lst ((toldL k.sl f).map V.int)) := by rw [ho3 _ nl, ho2 _ nl]; exact el
    refine ⟨zl1, fun l2 hl2 => ?_⟩
    have n2 : l ≠ l2 := nN el3 hl2
    refine ⟨_, rfl, l2, l, _, _, rfl, rfl, uS, (by rw [uN n2]; exact el3), ?_, fun l3 hl3 => ?_⟩
    ·rw [List.length_map, told_len]; show 1 + 3 <= sizeLine; decide
    ·exact (q.fin S3 ((Fra.same k s1).trans F3)).of (Same.upd hl2) l3 hl3
end
end SHP
end
section
namespace SHP
open PySem PySem.Spec PyProof.Rows L2 SH
open Vbahas (Slot Flight State)
section
variable {c : Cs} {H H1 : Hp} {k : Hs} {s : State}
theorem IsFl.some {C : Addr} {H : Hp} {a : Addr} {f : Flight} (h : IsFl C H a f) : ∃ o, H a = some o := let ⟨d, e⟩ := h; ⟨_, e⟩
theorem IsSl.some {C : Addr} {H : Hp} {a : Addr} {x : Slot} (h : IsSl C H a x) : ∃ o, H a = some o := let ⟨d, e⟩ := h; ⟨_, e⟩
theorem fl_ne_sl {C D : Addr} {H : Hp} {a b : Addr} {f : Flight} {x : Slot} (h : IsFl C H a f) (g : IsSl D H b x) : a ≠ b := by
 obtain ⟨d, e⟩ := h
 obtain ⟨d', e'⟩ := g
 exact ne_of e e' (ins_ne fun z => sfs_ffs _ _ z.symm)
theorem At.setFS (A : At c H k) {j p : Nat} {a b : Addr} {f f' : Flight} {x x' : Slot} (hj : k.fs[j]? = some (a, f)) (hp : k.ss[p]? = some (b, x)) (hi : f'.id = f.id) (ha : IsFl c.F H1 a f') (hb : IsSl c.S H1 b x') (ho : ∀ y, y ≠ a -> y ≠ b -> H1 y = H y) :
  At c H1 { k with fs := k.fs.set j (a, f'), ss := k.ss.set p (b, x') } := by
 have nab : a ≠ b := fl_ne_sl (A.flight hj) (A.slot hp)
 have A1 : At c (fun y => if y = a then H1 a else H y) { k with fs := k.fs.set j (a, f') } := A.setF hj hi (let ⟨d, e⟩ := ha; ⟨d, by show (if a = a then H1 a else H a) = _; rw [if_pos rfl]; exact e⟩) fun y hy => if_neg hy
 exact A1.setS (k := { k with fs := k.fs.set j (a, f') }) hp hb fun y hy => by
  by_cases z : y = a
  ·subst z; rw [if_pos rfl]
  ·rw [if_neg z]; exact ho y z hy
theorem Sta.putFO (S : Sta c H k s) {j p : Nat} {a b : Addr} {f f' : Flight} {x : Slot} {o : Option Int} (hj : k.fs[j]? = some (a, f)) (hp : k.ss[p]? = some (b, x)) (hi : f'.id = f.id) (ha : IsFl c.F H1 a f') (hb : IsSl c.S H1 b { x with owner := o }) (ho : ∀ y, y ≠ a -> y ≠ b -> H1 y = H y)
  (w : Wf (Vbahas.setOwner (Vbahas.setFlight s f') p o)) :
  Sta c H1 { k with fs := k.fs.set j (a, f'), ss := k.ss.set p (b, { x with owner := o }) } (Vbahas.setOwner (Vbahas.setFlight s f') p o) /\ Fra H H1 k { k with fs := k.fs.set j (a, f'), ss := k.ss.set p (b, { x with owner := o }) } := by
 refine ⟨⟨S.at_.setFS hj hp hi ha hb ho, ?_⟩, ⟨rfl, fun y hy => ?_, fun y o' e hn => ?_, fun y hy => .inl ?_⟩⟩
 ·have e1 : (k.fs.set j (a, f')).map (·.2) = k.fl.map (SH.putF f') := by
   rw [List.map_set]
   exact set_putF S.rel.ids (by unfold Hs.fl; rw [List.getElem?_map, hj]; rfl) hi
  have e2 : (k.ss.set p (b, { x with owner := o })).map (·.2) = ownAt k.sl p o := by
   rw [List.map_set]
   exact (ownAt_set _ _ _ (by rw [List.getElem?_map, hp]; rfl)).symm
  show SH.Rel ((k.ss.set p (b, { x with owner := o })).map (·.2)) ((k.fs.set j (a, f')).map (·.2)) k.g _
  rw [e1, e2]
  exact S.rel.putO w
 ·by_cases z1 : y = a
  ·obtain ⟨q, e⟩ := ha.some; rw [z1, e] at hy; cases hy
  ·by_cases z2 : y = b
   ·obtain ⟨q, e⟩ := hb.some; rw [z2, e] at hy; cases hy
   ·rw [<- ho y z1 z2]; exact hy
 ·rw [ho y (fun z => hn (by rw [z]; exact foot_flight hj)) fun z => hn (by rw [z]; exact foot_slot hp)]; exact e
 ·have h1 := foot_setS (k := { k with fs := k.fs.set j (a, f') }) (x' := { x with owner := o }) hp y hy
  exact foot_setF hj y h1
end
section
variable {P : Program} {w : World} {K : PySem.W.Frag} {mg : Str -> Option Value} {base : Heap} {c : Cs}
theorem sc_take_place : FSc ["house", "flight", "place", "slot"] ["house", "flight", "place"] (dSc s_take_place) := ⟨rfl, rfl, rfl, by decide +kernel, rfl, by decide +kernel, by decide +kernel⟩
def sp_take_place (c : Cs) : Sp := fun vs H Q _ => ∃ (k : Hs) (a b : Addr) (f : Flight) (x : Slot) (p : Nat), vs = [.ref k.h, .ref a, .int ((p : Int) + 1)] /\ At c H k /\ IsFl c.F H a f /\ k.ss[p]? = some (b, x) /\ ((∃ j : Nat, k.fs[j]? = some (a, f)) \/ a ∉ k.fs.map (·.1)) /\
 ∀ H', IsFl c.F H' a { f with place := some p } -> IsSl c.S H' b { x with owner := some f.carrier } -> (∀ y, y ≠ a -> y ≠ b -> H' y = H y) -> Q .non H'
theorem At.beside {H H1 : Hp} {k : Hs} (A : At c H k) {a : Addr} {f : Flight} (hf : IsFl c.F H a f) (hn : a ∉ k.fs.map (·.1)) (ho : ∀ b, b ≠ a -> H1 b = H b) : At c H1 k := A.keep fun b o hb e => by
 obtain ⟨d, ea⟩ := hf
 rw [ho b fun z => ?_]
 ·exact e
 ·subst z
  rcases hb with z | z | z | z | z
  ·obtain ⟨d', e'⟩ := A.hh
   rw [<- z, ea] at e'
   exact ffs_hfs _ _ _ _ (HO.ins.inj (Option.some.inj e')).2.2
  ·have := A.hl; rw [<- z, ea] at this; cases this
  ·have := A.hd; rw [<- z, ea] at this; cases this
  ·obtain ⟨x, hx, rfl⟩ := List.mem_map.mp z
   exact fl_ne_sl ⟨d, ea⟩ (A.hs x hx) rfl
  ·exact hn z
theorem ok_take_place (T : Txt K mg c) (D : DefAt K mg "take_place" s_take_place ["house", "flight", "place"]) (O_slot_at : Ok P w K mg base 1 "slot_at" ["house", "place"] (sp_slot_at c)) : Ok P w K mg base 2 "take_place" ["house", "flight", "place"] (sp_take_place c) := by
 refine mkOk D sc_take_place (fun vs H Q E h => ?_) fun f cdv A outer s H vs Q E hr h => ?_
 ·obtain ⟨k, a, b, f, x, p, rfl, _⟩ := h; rfl
 ·obtain ⟨k, a, b, f, x, p, rfl, hA, hf, hp, hside, q⟩ := h
  have nd := sc_take_place.nd
  refine ⟨_, (bC (sf_place T (pv 1) (pv 2) rfl)
   (bC (ps_set (i := 3) nd rfl (by first | exact Or.inl rfl | exact Or.inr rfl) (pe_fn O_slot_at hr rfl (aC (pv 0) (aC (pv 2) aN))))
   (bO (sf_owner T (pv 3) (pf_carrier T (pv 1)) rfl)))), ?_⟩
  have nab : a ≠ b := fl_ne_sl hf (hA.slot hp)
  refine ⟨_, rfl, _, rfl, a, f, { f with place := some p }, rfl, hf, rfl, fun H1 ha ho => ?_⟩
  obtain ⟨k1, hA1, hh1, hp1⟩ : ∃ k1 : Hs, At c H1 k1 /\ k1.h = k.h /\ k1.ss[p]? = some (b, x) := by
   rcases hside with ⟨j, hj⟩ | hn
   ·exact ⟨_, hA.setF hj (f' := { f with place := some p }) rfl ha ho, rfl, hp⟩
   ·exact ⟨k, hA.beside hf hn ho, rfl, hp⟩
  refine ⟨_, rfl, _, rfl, k1, p, b, x, (by rw [hh1]; rfl), hA1, hp1, _, rfl, a, _, rfl, ha, _, rfl, b, x, { x with owner := some f.carrier }, rfl, hA1.slot hp1, rfl, fun H2 hb ho2 => ?_⟩
  refine q H2 (let ⟨d, e⟩ := ha; ⟨d, by rw [ho2 _ nab]; exact e⟩) hb fun y h1 h2 => by rw [ho2 y h2, ho y h1]
theorem stepReady_far {s : State} {i t : Int} {f : Flight} {p : Nat} (hfo : Vbahas.flightOf s i = some f) (e1 : f.gone = false) (e2 : ¬ t < f.sched) (hp : f.place = some p) (e3 : ¬ t <= Vbahas.timeOf s p) :
  Vbahas.stepReady s i t = match Vbahas.spare s { f with ready := t } true with
   | none => (s, [-7])
   | some q => (Vbahas.setOwner (Vbahas.setFlight s { f with ready := t, place := some q }) q (some f.carrier), 0 :: Vbahas.placeTold (Vbahas.setOwner (Vbahas.setFlight s { f with ready := t, place := some q }) q (some f.carrier)) { f with ready := t, place := some q }) := by
 unfold Vbahas.stepReady
 rw [hfo]
 dsimp only
 rw [if_neg (by rw [e1]; exact Bool.false_ne_true), if_neg e2]
 split
 ·rename_i h; rw [hp] at h; cases h
 ·rename_i p' h
  rw [hp] at h
  cases h
  rw [if_neg e3]
  cases Vbahas.spare s { f with ready := t } true <;> rfl
theorem sc_set_ready : FSc ["house", "number", "time", "flight", "place"] ["house", "number", "time"] (dSc s_set_ready) := ⟨rfl, rfl, rfl, by decide +kernel, rfl, by decide +kernel, by decide +kernel⟩
def sp_set_ready (c : Cs) : Sp := fun vs H Q _ => ∃ (k : Hs) (s : State) (i t : Int), vs = [.ref k.h, .int i, .int t] /\ Sta c H k s /\ Vbahas.inRange (.ready i t) = true /\ Ans c H k (Vbahas.stepReady s i t) Q
theorem ok_set_ready (T : Txt K mg c) (D : DefAt K mg "set_ready" s_set_ready ["house", "number", "time"]) (O_slot_at : Ok P w K mg base 1 "slot_at" ["house", "place"] (sp_slot_at c)) (O_open_places_of : Ok P w K mg base 3 "open_places_of" ["house", "owners"] (sp_open_places_of c))
  (O_first_place_from : Ok P w K mg base 2 "first_place_from" ["house", "time", "places"] (sp_first_place_from c)) (O_take_place : Ok P w K mg base 2 "take_place" ["house", "flight", "place"] (sp_take_place c)) (O_told_slot : Ok P w K mg base 3 "told_slot" ["house", "flight"] (sp_told_slot c)) :
  Ok P w K mg base 4 "set_ready" ["house", "number", "time"] (sp_set_ready c) := by
 refine mkOk D sc_set_ready (fun vs H Q E h => ?_) fun f cdv A outer s H vs Q E hr h => ?_
 ·obtain ⟨k, s, i, t, rfl, _⟩ := h; rfl
 ·obtain ⟨k, s, i, t, rfl, hS, hin, q⟩ := h
  have nd := sc_set_ready.nd
  have hu := hu_of hr
  have hA := hS.at_
  refine ⟨_, (bC (ps_if (pt_cmp (pc_dnotin hu (pv 1) (pf_flights T (pv 0)))) (bO (pRt (pe_lst (aC (gIn T.c_NOT_THERE rfl) aN)))) bN)
   (bC (ps_set (i := 3) nd rfl (by first | exact Or.inl rfl | exact Or.inr rfl) (pe_dget hu (pf_flights T (pv 0)) (pv 1) (fun _ _ => rfl)))
   (bC (ps_if (pt_val (pf_cancelled T (pv 3))) (bO (pRt (pe_lst (aC (gIn T.c_CANCELLED_OR_WITHOUT_SLOT rfl) aN)))) bN)
   (bC (ps_if (tCm op_lt (pv 2) (pf_planned T (pv 3)) (nMk _)) (bO (pRt (pe_lst (aC (gIn T.c_WRONG_TIME rfl) aN)))) bN)
   (bC (ps_if (PW.pt (pw_and (tCm op_ne (pf_place T (pv 3)) (gIn T.c_NO_PLACE rfl) (nMk _)) (pw_and1 (tCm op_lt (pf_time T (pe_fn O_slot_at hr rfl (aC (pv 0) (aC (pf_place T (pv 3)) aN)))) (pv 2) (nMk _))))) (bC (ps_set (i := 4) nd rfl (by first | exact Or.inl rfl | exact Or.inr rfl) (pe_fn O_first_place_from hr rfl (aC (pv 0) (aC (pv 2) (aC (pe_fn O_open_places_of hr rfl (aC (pv 0) (aC (pe_lst (aC (gIn T.c_NOBODY rfl) (aC (pf_carrier T (pv 3)) aN))) aN))) aN)))))
   (bC (ps_if (tCm op_eq (pv 4) (gIn T.c_NO_PLACE rfl) (nMk _)) (bO (pRt (pe_lst (aC (gIn T.c_NO_SLOT_FOR_IT rfl) aN)))) bN)
   (bO (ps_expr (pe_fn O_take_place hr rfl (aC (pv 0) (aC (pv 3) (aC (pv 4) aN)))))))) bN)
   (bC (sf_ready T (pv 3) (pv 2) rfl)
   (bO (pRt (pe_op op_cat (pe_lst (aC pe_int aN)) (pe_fn O_told_slot hr rfl (aC (pv 0) (aC (pv 3) aN)))))))))))), ?_⟩
  have hwf := wf_ready hS.rel.wf hin
  refine ⟨_, rfl, _, rfl, k.h, (k.la, k.da, k.g), rfl, hA.hh, k.da, _, rfl, DGet.k (k := Sum.inl i) hA.hd, _, rfl, ?_⟩
  rw [dget]
  rcases hS.look i with ⟨hn, hfn⟩ | ⟨j, a, f, hj, hi, hfd, hfo⟩
  ·have e : Vbahas.stepReady s i t = (s, [-5]) := by simp only [Vbahas.stepReady, hfn]
   rw [e] at q
   rw [hn]
   exact ⟨zl1, (q.ro hS rfl (Same.refl H)).of (Same.refl H)⟩
  ·rw [hfd]
   have hm : (a, f) ∈ k.fs := List.mem_of_getElem? hj
   have hfa := hA.flight hj
   have hfo' := hS.rel.fok (Hs.mem_fl hm)
   refine ⟨_, rfl, k.h, (k.la, k.da, k.g), rfl, hA.hh, _, rfl, k.da, V.ref a, rfl, (by have := DGet.k (k := Sum.inl i) hA.hd; rw [dget, hfd] at this; exact this), ?_⟩
   refine ⟨_, rfl, a, f, rfl, hfa, _, rfl, iteB (fun e1 => ?_) fun e1 => ?_⟩
   ·have e : Vbahas.stepReady s i t = (s, [-9]) := by simp only [Vbahas.stepReady, hfo, e1, if_true]
    rw [e] at q
    exact ⟨zl1, (q.ro hS rfl (Same.refl H)).of (Same.refl H)⟩
   refine ⟨_, rfl, _, rfl, a, f, rfl, hfa, _, _, rfl, rfl, _, rfl, iteD (fun e2 => ?_) fun e2 => ?_⟩
   ·have e : Vbahas.stepReady s i t = (s, [-6]) := by simp only [Vbahas.stepReady, hfo, e1, e2, Bool.false_eq_true, if_false, if_true]
    rw [e] at q
    exact ⟨zl1, (q.ro hS rfl (Same.refl H)).of (Same.refl H)⟩
   cases hp : f.place with
   | none =>
    have e : Vbahas.stepReady s i t = (Vbahas.setFlight s { f with ready := t }, [0, 0, 0, 0]) := by simp only [Vbahas.stepReady, hfo, e1, e2, hp, Bool.false_eq_true, if_false]
    rw [e] at q hwf
    refine ⟨_, rfl, a, f, rfl, hfa, rfl, _, rfl, iteNI (fun z => (z (by rw [hp]; rfl)).elim) fun _ => ?_⟩
    refine ⟨_, rfl, _, rfl, a, f, { f with ready := t }, rfl, hfa, rfl, fun H1 ha ho => ?_⟩
    obtain ⟨S1, F1⟩ := hS.putF hj (f' := { f with ready := t }) rfl ha ho hwf
    have hm1 : (a, ({ f with ready := t } : Flight)) ∈ k.fs.set j (a, { f with ready := t }) := List.mem_set (List.getElem?_eq_some_iff.mp hj).1 _
    refine ⟨zl1, fun l1 hl1 => ?_⟩
    refine ⟨_, rfl, _, rfl, _, _, _, rfl, S1.same (Same.upd hl1), hm1, fun l2 H3 hl2 s3 el => ?_⟩
    refine ⟨l1, l2, _, _, rfl, rfl, s3 _ _ uS, el, ?_, fun l3 hl3 => ?_⟩
    ·rw [List.length_map, told_len]; show 1 + 3 <= sizeLine; decide
    ·have et : toldL ({ k with fs := k.fs.set j (a, { f with ready := t }) } : Hs).sl { f with ready := t } = [0, 0, 0] := by unfold toldL; rw [show ({ f with ready := t } : Flight).place = none from hp]
     rw [et]
     exact (q.fin S1 F1).of ((Same.upd hl1).trans s3) l3 hl3
   | some p =>
    obtain ⟨b, y, hby⟩ := hS.place hm hp
    refine ⟨_, rfl, a, f, rfl, hfa, rfl, _, rfl, iteNI (fun _ => ?_) fun z => (by rw [hp] at z; unfold pI at z; simp at z; omega)⟩
    refine ⟨_, rfl, _, rfl, a, f, rfl, hfa, k, p, b, y, (by show [V.ref k.h, V.int (pI f.place)] ++ [] = _; rw [hp]; rfl), hA, hby, b, y, rfl, hA.slot hby, _, rfl, _, _, rfl, rfl, _, rfl, iteD (fun e3 => ?_) fun e3 => ?_⟩
    ·-- another slot is sought
     have e3' : ¬ t <= Vbahas.timeOf s p := by rw [timeOf_eq, hS.rel.sl, Hs.tOf_ss hby]; omega
     refine ⟨_, rfl, _, rfl, _, rfl, _, rfl, a, f, rfl, hfa, zl2, fun o ho => ?_⟩
     refine ⟨k, s, o, [-1, f.carrier], rfl, hS.same (Same.upd ho), uS, fun l H2 hl s2 el => ?_⟩
     have sH2 : Same H H2 := (Same.upd ho).trans s2
     have hS2 := hS.same sH2
     have ob : ∀ p ∈ openL k.sl k.fl [-1, f.carrier], p < k.ss.length := fun p hp => by
      have := List.mem_range.mp (List.mem_filter.mp (List.mem_filter.mp hp).1).1
      rw [Hs.sl_len] at this; exact this
     refine ⟨k, t, l, openL k.sl k.fl [-1, f.carrier], rfl, hS2.at_, el, ob, ?_⟩
     have hsp := hS.rel.spare1 { f with ready := t } hfo'.c0
     have hsp : (openL k.sl k.fl [-1, f.carrier]).find? (fun p => decide (t <= tOf k.sl p)) = Vbahas.spare s { f with ready := t } true := hsp
     rw [hsp]
     refine ⟨_, rfl, rfl, _, rfl, iteI (fun e4 => ?_) fun e4 => ?_⟩
     ·have e : Vbahas.stepReady s i t = (s, [-7]) := by rw [stepReady_far hfo e1 e2 hp e3', pI_zero.mp e4]
      rw [e] at q
      exact ⟨zl1, (q.ro hS rfl sH2).of (Same.refl H2)⟩
     ·cases hq : Vbahas.spare s { f with ready := t } true with
      | none => exact (e4 (by rw [hq]; rfl)).elim
      | some r =>
       have e : Vbahas.stepReady s i t = (Vbahas.setOwner (Vbahas.setFlight s { f with ready := t, place := some r }) r (some f.carrier), 0 :: toldL (ownAt k.sl r (some f.carrier)) { f with ready := t, place := some r }) := by
        rw [stepReady_far hfo e1 e2 hp e3', hq]
        dsimp only
        rw [told_eq, setOwner_eq]
        show (_, 0 :: toldL (ownAt s.slots r (some f.carrier)) _) = _
        rw [hS.rel.sl]
       rw [e] at q hwf
       have hrl : r < k.ss.length := by
        have := (spare_some hS.rel.wf hq).1
        rw [hS.rel.sl, Hs.sl_len] at this; exact this
       obtain ⟨d, z, hdz⟩ := Hs.get hrl
       refine ⟨_, rfl, _, rfl, _, rfl, k, a, d, f, z, r, rfl, hS2.at_, hS2.at_.flight hj, hdz, .inl ⟨j, hj⟩, fun H3 ha3 hd3 ho3 => ?_⟩
       have nad : a ≠ d := fl_ne_sl (hA.flight hj) (hA.slot hdz)
       refine ⟨_, rfl, _, rfl, a, { f with place := some r }, { f with ready := t, place := some r }, rfl, ha3, rfl, fun H4 ha4 ho4 => ?_⟩
       obtain ⟨S4, F4⟩ := hS2.putFO hj hdz (f' := { f with ready := t, place := some r }) rfl ha4 (let ⟨dd, ee⟩ := hd3; ⟨dd, by rw [ho4 _ (Ne.symm nad)]; exact ee⟩) (fun y h1 h2 => by rw [ho4 y h1, ho3 y h1 h2]) hwf
       have hm1 : (a, ({ f with ready := t, place := some r } : Flight)) ∈ k.fs.set j (a, { f with ready := t, place := some r }) := List.mem_set (List.getElem?_eq_some_iff.mp hj).1 _
       refine ⟨zl1, fun l1 hl1 => ?_⟩
       refine ⟨_, rfl, _, rfl, _, _, _, rfl, S4.same (Same.upd hl1), hm1, fun l2 H5 hl2 s5 el5 => ?_⟩
       refine ⟨l1, l2, _, _, rfl, rfl, s5 _ _ uS, el5, ?_, fun l3 hl3 => ?_⟩
       ·rw [List.length_map, told_len]; show 1 + 3 <= sizeLine; decide
       ·have es : ({ k with fs := k.fs.set j (a, { f with ready := t, place := some r }), ss := k.ss.set r (d, { z with owner := some f.carrier }) } : Hs).sl = ownAt k.sl r (some f.carrier) := by
         show (k.ss.set r (d, { z with owner := some f.carrier })).map (·.2) = _
         rw [List.map_set]
         exact (ownAt_set _ _ _ (by rw [List.getElem?_map, hdz]; rfl)).symm
        rw [es]
        exact (q.fin S4 ((Fra.same k sH2).trans F4)).of ((Same.upd hl1).trans s5) l3 hl3
    ·-- it may still have its own
     have e3' : t <= Vbahas.timeOf s p := by rw [timeOf_eq, hS.rel.sl, Hs.tOf_ss hby]; omega
     have e : Vbahas.stepReady s i t = (Vbahas.setFlight s { f with ready := t }, 0 :: toldL k.sl { f with ready := t }) := by
      simp only [Vbahas.stepReady, hfo, e1, e2, hp, e3', Bool.false_eq_true, if_false, if_true]
      rw [told_eq, hS.rel.sl]
     rw [e] at q hwf
     refine ⟨_, rfl, _, rfl, a, f, { f with ready := t }, rfl, hfa, rfl, fun H1 ha ho => ?_⟩
     obtain ⟨S1, F1⟩ := hS.putF hj (f' := { f with ready := t }) rfl ha ho hwf
     have hm1 : (a, ({ f with ready := t } : Flight)) ∈ k.fs.set j (a, { f with ready := t }) := List.mem_set (List.getElem?_eq_some_iff.mp hj).1 _
     refine ⟨zl1, fun l1 hl1 => ?_⟩
     refine ⟨_, rfl, _, rfl, _, _, _, rfl, S1.same (Same.upd hl1), hm1, fun l2 H3 hl2 s3 el => ?_⟩
     refine ⟨l1, l2, _, _, rfl, rfl, s3 _ _ uS, el, ?_, fun l3 hl3 => ?_⟩
     ·rw [List.length_map, told_len]; show 1 + 3 <= sizeLine; decide
     ·exact (q.fin S1 F1).of ((Same.upd hl1).trans s3) l3 hl3
end
end SHP
end
section
namespace SHP
open PySem PySem.Spec PyProof.Rows L2 SH
open Vbahas (Slot Flight State)
theorem any_last {sl : List Slot} (h : SOk sl) {a : Int} (hn : 0 < sl.length) : (sl.any fun x => decide (a <= x.time)) = decide (a <= tOf sl (sl.length - 1)) := by
 by_cases h1 : a <= tOf sl (sl.length - 1)
 ·rw [decide_eq_true h1, List.any_eq_true]
  refine ⟨sl[sl.length - 1], List.getElem_mem (by omega), ?_⟩
  rw [tOf_some (List.getElem?_eq_getElem (by omega))] at h1
  exact decide_eq_true h1
 ·rw [decide_eq_false h1, List.any_eq_false]
  intro x hx
  obtain ⟨i, hi, rfl⟩ := List.mem_iff_getElem.mp hx
  have := h.le (p := i) (q := sl.length - 1) (by omega) (by omega)
  rw [tOf_some (List.getElem?_eq_getElem hi)] at this
  simp only [decide_eq_true_eq]
  omega
theorem moreSlots_succ (a g : Int) (n : Nat) : moreSlots a g (n + 1) = moreSlots a g n ++ [{ time := a + g * (n : Int), owner := none }] := by
 unfold moreSlots
 rw [List.range_succ, List.map_append]
 rfl
theorem iteP {b : Bool} {A B : Prop} (h : b = true) (hA : A) : if b = true then A else B := by rw [if_pos h]; exact hA
theorem and_skip {b : Bool} {A C : Prop} (h1 : b = true -> C -> A) (hC : C) : if b = true then A else C := by
 cases b with
 | true => rw [if_pos rfl]; exact h1 rfl hC
 | false => rw [if_neg Bool.false_ne_true]; exact hC
section
variable {P : Program} {w : World} {K : PySem.W.Frag} {mg : Str -> Option Value} {base : Heap} {c : Cs}
theorem sc_add_slots : FSc ["house", "first_time", "gap", "how_many", "step"] ["house", "first_time", "gap", "how_many"] (dSc s_add_slots) := ⟨rfl, rfl, rfl, by decide +kernel, rfl, by decide +kernel, by decide +kernel⟩
def sp_add_slots (c : Cs) : Sp := fun vs H Q _ => ∃ (k : Hs) (s : State) (a g n : Int), vs = [.ref k.h, .int a, .int g, .int n] /\ Sta c H k s /\ Vbahas.inRange (.slots a g n) = true /\ Ans c H k (Vbahas.step s (.slots a g n)) Q
theorem made_same {H H1 : Hp} {x dx C : Addr} (nx : H x = none) (nd : H dx = none) (k : ∀ b, b ≠ x -> H1 b = (upd (upd H dx (.own x)) x (.ins C dx [])) b) : Same H H1 := fun b o e => by
 rw [k b (nN e nx), uN (nN e nx), uN (nN e nd)]; exact e
theorem ok_add_slots (T : Txt K mg c) (D : DefAt K mg "add_slots" s_add_slots ["house", "first_time", "gap", "how_many"]) (O_slot_at : Ok P w K mg base 1 "slot_at" ["house", "place"] (sp_slot_at c)) (O_Slot : MkOk P w K mg base 1 "Slot" c.S ["self", "time"] (sp_Slot c)) :
  Ok P w K mg base 3 "add_slots" ["house", "first_time", "gap", "how_many"] (sp_add_slots c) := by
 refine mkOk D sc_add_slots (fun vs H Q E h => ?_) fun f cdv A outer s H vs Q E hr h => ?_
 ·obtain ⟨k, s, a, g, n, rfl, _⟩ := h; rfl
 ·obtain ⟨k, s, a, g, n, rfl, hS, hin, q⟩ := h
  have nd := sc_add_slots.nd
  have hA := hS.at_
  have hwf := step_wf hS.rel.wf hin
  have hin' := hin
  simp only [Vbahas.inRange, Vbahas.timeIn, Vbahas.LATEST, Bool.and_eq_true, within_iff] at hin'
  obtain ⟨⟨⟨a1, a2⟩, g1, g2⟩, n1, n2⟩ := hin'
  refine ⟨_, (bC (ps_if (PW.pt (pw_and (pt_truth (pf_slots T (pv 0)) (by intro _; rfl)) (pw_and1 (tCm op_ge (pf_time T (pe_fn O_slot_at hr rfl (aC (pv 0) (aC (pe_callB cLn (by rfl) T.b_len PySem.boot_len (aC (pf_slots T (pv 0)) aN)) aN)))) (pv 1) (nMk _))))) (bO (pRt (pe_lst (aC (gIn T.c_WRONG_TIME rfl) aN)))) bN)
   (bC (ps_if (tCm op_gt (pe_op op_add (pv 1) (pe_op op_mul (pv 2) (pe_op op_sub (pv 3) pe_int))) (gIn T.c_LAST_TIME rfl) (nMk _)) (bO (pRt (pe_lst (aC (gIn T.c_WRONG_TIME rfl) aN)))) bN)
   (bC (ps_if (tCm op_gt (pe_op op_add (pe_callB cLn (by rfl) T.b_len PySem.boot_len (aC (pf_slots T (pv 0)) aN)) (pv 3)) (gIn T.c_MOST_SLOTS rfl) (nMk _)) (bO (pRt (pe_lst (aC (gIn T.c_FULL rfl) aN)))) bN)
   (bC (ps_for PassesOwn.never rfl (pi_range1 rfl T.b_range (aC (pv 3) aN)) (pg_name (i := 4) nd rfl (Or.inl rfl)) (bO (ps_expr (pe_bm PySem.F.plainAttrs_list PySem.F.slot_list_append PySem.F.type_list_append mt_append (pf_slots T (pv 0)) (aC (pe_new O_Slot hr rfl (aC (pe_op op_add (pv 1) (pe_op op_mul (pv 2) (pv 4))) aN)) aN)))))
   (bO (pRt (pe_lst (aC pe_int (aC (pe_callB cLn (by rfl) T.b_len PySem.boot_len (aC (pf_slots T (pv 0)) aN)) aN))))))))), ?_⟩
  have eany : (s.slots.any fun x => decide (a <= x.time)) = (k.sl.any fun x => decide (a <= x.time)) := by rw [hS.rel.sl]
  refine ⟨_, rfl, k.h, (k.la, k.da, k.g), rfl, hA.hh, !(k.ss.map fun x => V.ref x.1).isEmpty, .inl ⟨_, SqL.of hA.hl, rfl⟩, ?_⟩
  by_cases hany : (k.sl.any fun x => decide (a <= x.time)) = true
  ·have hpos : 0 < k.ss.length := by
    cases hz : k.ss with
    | nil => unfold Hs.sl at hany; rw [hz] at hany; simp at hany
    | cons x r => simp
   have e : Vbahas.step s (.slots a g n) = (s, [-6]) := by simp only [Vbahas.step, eany, hany, if_true]
   rw [e] at q
   rw [any_last hS.rel.so (by rw [Hs.sl_len]; exact hpos), decide_eq_true_eq, Hs.sl_len] at hany
   obtain ⟨b, y, hby⟩ := Hs.get (k := k) (p := k.ss.length - 1) (by omega)
   refine iteP (by cases hz : k.ss with | nil => rw [hz] at hpos; simp at hpos | cons x r => rfl) ?_
   refine ⟨_, rfl, _, rfl, k.h, (k.la, k.da, k.g), rfl, hA.hh, k.la, _, rfl, .inl (SqL.of hA.hl), k, k.ss.length - 1, b, y, ?_, hA, hby, b, y, rfl, hA.slot hby, _, rfl, _, _, rfl, rfl, _, rfl, iteD (fun _ => ?_) fun z => (z (by rw [Hs.tOf_ss hby] at hany; exact hany)).elim⟩
   ·show [V.ref k.h, V.int ((k.ss.map fun x => V.ref x.1).length : Int)] ++ [] = _
    rw [List.length_map]
    have : ((k.ss.length - 1 : Nat) : Int) + 1 = (k.ss.length : Int) := by omega
    rw [this]
    rfl
   ·exact ⟨zl1, (q.ro hS rfl (Same.refl H)).of (Same.refl H)⟩
  ·refine and_skip (fun hb hC => ?_) ?_
   ·have hpos : 0 < k.ss.length := by
     cases hz : k.ss with
     | nil => rw [hz] at hb; cases hb
     | cons x r => simp
    rw [any_last hS.rel.so (by rw [Hs.sl_len]; exact hpos), decide_eq_true_eq, Hs.sl_len] at hany
    obtain ⟨b, y, hby⟩ := Hs.get (k := k) (p := k.ss.length - 1) (by omega)
    refine ⟨_, rfl, _, rfl, k.h, (k.la, k.da, k.g), rfl, hA.hh, k.la, _, rfl, .inl (SqL.of hA.hl), k, k.ss.length - 1, b, y, ?_, hA, hby, b, y, rfl, hA.slot hby, _, rfl, _, _, rfl, rfl, _, rfl, iteD (fun z => (hany (by rw [Hs.tOf_ss hby]; exact z)).elim) fun _ => hC⟩
    show [V.ref k.h, V.int ((k.ss.map fun x => V.ref x.1).length : Int)] ++ [] = _
    rw [List.length_map]
    have : ((k.ss.length - 1 : Nat) : Int) + 1 = (k.ss.length : Int) := by omega
    rw [this]
    rfl
   have hany' : ¬ (s.slots.any fun x => decide (a <= x.time)) = true := by rw [eany]; exact hany
   refine ⟨_, rfl, _, rfl, _, rfl, _, _, rfl, rfl, _, _, rfl, rfl, .inl ⟨by omega, by omega⟩, _, _, rfl, rfl, _, _, rfl, rfl, _, rfl, iteD (fun e2 => ?_) fun e2 => ?_⟩
   ·have e : Vbahas.step s (.slots a g n) = (s, [-6]) := by
     simp only [Vbahas.step]
     rw [if_neg hany', if_pos (by show (52595999 : Int) < _; exact e2)]
    rw [e] at q
    exact ⟨zl1, (q.ro hS rfl (Same.refl H)).of (Same.refl H)⟩
   have e2' : ¬ Vbahas.LATEST < a + g * (n - 1) := e2
   refine ⟨_, rfl, k.h, (k.la, k.da, k.g), rfl, hA.hh, k.la, _, rfl, .inl (SqL.of hA.hl), _, rfl, _, _, rfl, rfl, _, _, rfl, rfl, _, rfl, iteD (fun e3 => ?_) fun e3 => ?_⟩
   ·have e : Vbahas.step s (.slots a g n) = (s, [-8]) := by
     simp only [Vbahas.step]
     rw [if_neg hany', if_neg e2', if_pos (by
      show (120 : Nat) < s.slots.length + n.toNat
      rw [hS.rel.sl, Hs.sl_len]
      rw [List.length_map] at e3
      omega)]
    rw [e] at q
    exact ⟨zl1, (q.ro hS rfl (Same.refl H)).of (Same.refl H)⟩
   rw [List.length_map] at e3
   have e : Vbahas.step s (.slots a g n) = ({ s with slots := s.slots ++ moreSlots a g n.toNat }, [0, (s.slots.length : Int) + n]) := by
    simp only [Vbahas.step]
    rw [if_neg hany', if_neg e2', if_neg (by
     show ¬ (120 : Nat) < s.slots.length + n.toNat
     rw [hS.rel.sl, Hs.sl_len]
     omega)]
    rfl
   rw [e] at q hwf
   refine ⟨_, rfl, n, rfl, by omega, by omega, for_range (lo := 0) (n := n.toNat) (fun i σ H' => ∃ (v : Option V) (nw : List (Addr × Slot)), σ = [some (.ref k.h), some (.int a), some (.int g), some (.int n), v] /\ At c H' { k with ss := k.ss ++ nw } /\ nw.map (·.2) = moreSlots a g i /\ Fra H H' k { k with ss := k.ss ++ nw }) ?_ ?_ ?_⟩
   ·exact ⟨none, [], rfl, by rw [List.append_nil]; exact hA, rfl, by rw [List.append_nil]; exact Fra.refl H k⟩
   ·rintro i σ Hi hi ⟨v, nw, rfl, hAi, hnw, Fi⟩
    have hnl : nw.length = i := by
     have := congrArg List.length hnw
     rw [List.length_map, moreSlots_len] at this
     exact this
    have mi : 0 <= g * (i : Int) := Int.mul_nonneg (by omega) (by omega)
    refine ⟨_, rfl, k.h, (k.la, k.da, k.g), rfl, hAi.hh, .inl ⟨rfl, _, SqL.of hAi.hl⟩, _, rfl, _, rfl, _, rfl, _, _, rfl, rfl, .inl ⟨by omega, by omega⟩, _, _, rfl, rfl, fun x dx hx hdx ndx => ?_⟩
    refine ⟨x, dx, a + g * (0 + (i : Int)), rfl, uS, fun H2 hsl ho2 => ⟨rfl, ?_⟩⟩
    have sm : Same Hi H2 := made_same hx hdx ho2
    have hla : H2 k.la = some (.lst ((k.ss ++ nw).map fun y => V.ref y.1)) := sm _ _ hAi.hl
    refine ⟨k.la, _, _, rfl, rfl, hla, ?_, ?_⟩
    ·rw [List.length_map, List.length_append, hnl]
     exact lt1000 (by have := hS.nsl; omega)
    ·have nlx : k.la ≠ x := nN hAi.hl hx
     have hadd : At c (upd H2 k.la (.lst ((k.ss ++ nw).map (fun y => V.ref y.1) ++ [V.ref x]))) { k with ss := k.ss ++ nw ++ [(x, { time := a + g * (i : Int), owner := none })] } := by
      refine At.addS (k := { k with ss := k.ss ++ nw }) hAi (a := x) ?_ ?_ ?_ ?_
      ·intro hm
       obtain ⟨y, hy, e'⟩ := List.mem_map.mp hm
       obtain ⟨o, eo⟩ := (hAi.hs y hy).some
       rw [e', hx] at eo; cases eo
      ·show upd H2 k.la _ k.la = some (.lst ((k.ss ++ nw ++ [(x, ({ time := a + g * (i : Int), owner := none } : Slot))]).map fun y => V.ref y.1))
       rw [uS]
       simp only [List.map_append, List.map_cons, List.map_nil]
      ·obtain ⟨d, ed⟩ := hsl
       refine ⟨d, ?_⟩
       rw [uN (Ne.symm nlx), ed, Int.zero_add]
      ·intro b o hb e'
       rw [uN hb]; exact sm _ _ e'
     refine ⟨_, nw ++ [(x, { time := a + g * (i : Int), owner := none })], rfl, by rw [<- List.append_assoc]; exact hadd, ?_, ?_⟩
     ·rw [List.map_append, hnw, moreSlots_succ]; rfl
     ·refine Fi.trans ⟨rfl, fun b hb => ?_, fun b o e' hn => ?_, fun b hb => ?_⟩
      ·by_cases z : b = k.la
       ·rw [z, uS] at hb; cases hb
       ·rw [uN z] at hb
        exact sm.free hb
      ·rw [uN (fun z => hn (.inr (.inl z)))]; exact sm _ _ e'
      ·rcases hb with z | z | z | z | z
       ·exact .inl (.inl z)
       ·exact .inl (.inr (.inl z))
       ·exact .inl (.inr (.inr (.inl z)))
       ·have z : b ∈ (k.ss ++ (nw ++ [(x, ({ time := a + g * (i : Int), owner := none } : Slot))])).map (·.1) := z
        rw [<- List.append_assoc, List.map_append] at z
        rcases List.mem_append.mp z with z | z
        ·exact .inl (.inr (.inr (.inr (.inl z))))
        ·have : b = x := by simpa using z
         rw [this]; exact .inr hx
       ·exact .inl (.inr (.inr (.inr (.inr z))))
   ·rintro σ Hi ⟨v, nw, rfl, hAi, hnw, Fi⟩
    have hnl : nw.length = n.toNat := by
     have := congrArg List.length hnw
     rw [List.length_map, moreSlots_len] at this
     exact this
    have S1 : Sta c Hi { k with ss := k.ss ++ nw } { s with slots := s.slots ++ moreSlots a g n.toNat } := by
     refine ⟨hAi, ?_, hS.rel.gv, hS.rel.pm, hwf⟩
     show s.slots ++ moreSlots a g n.toNat = (k.ss ++ nw).map (·.2)
     rw [List.map_append, hnw, hS.rel.sl]
     rfl
    refine ⟨_, rfl, k.h, (k.la, k.da, k.g), rfl, hAi.hh, k.la, _, rfl, .inl (SqL.of hAi.hl), zl2, ?_⟩
    have el : (((k.ss ++ nw).map fun y => V.ref y.1).length : Int) = (s.slots.length : Int) + n := by
     rw [List.length_map, List.length_append, hnl, hS.rel.sl, Hs.sl_len]
     omega
    rw [el]
    exact (q.fin S1 Fi).of (Same.refl Hi)
end
end SHP
end
section
namespace SHP
open PySem PySem.Spec PyProof.Rows L2 SH
open Vbahas (Slot Flight State)
section
variable {c : Cs} {H H1 : Hp} {k : Hs} {s : State}
theorem foot_addF {k : Hs} {a : Addr} {f : Flight} : ∀ b, ({ k with fs := k.fs ++ [(a, f)] } : Hs).foot b -> k.foot b \/ b = a := fun b hb => by
 rcases hb with z | z | z | z | z
 ·exact .inl (.inl z)
 ·exact .inl (.inr (.inl z))
 ·exact .inl (.inr (.inr (.inl z)))
 ·exact .inl (.inr (.inr (.inr (.inl z))))
 ·have z : b ∈ (k.fs ++ [(a, f)]).map (·.1) := z
  rw [List.map_append] at z
  rcases List.mem_append.mp z with z | z
  ·exact .inl (.inr (.inr (.inr (.inr z))))
  ·exact .inr (by simpa using z)
theorem Sta.addF (S : Sta c H k s) {a : Addr} {f : Flight} (na : H a = none) (ha : IsFl c.F H1 a f) (hd : H1 k.da = some (.dK ((k.fs.map fun y => (Sum.inl y.2.id, V.ref y.1)) ++ [(Sum.inl f.id, V.ref a)]))) (ho : ∀ b o, b ≠ k.da -> H b = some o -> H1 b = some o)
  (hid : ∀ g ∈ s.flights, g.id ≠ f.id) (w : Wf { s with flights := Vbahas.withFlight s.flights f }) :
  Sta c H1 { k with fs := k.fs ++ [(a, f)] } { s with flights := Vbahas.withFlight s.flights f } /\ Fra H H1 k { k with fs := k.fs ++ [(a, f)] } := by
 have hn : a ∉ k.fs.map (·.1) := fun hm => by
  obtain ⟨y, hy, e⟩ := List.mem_map.mp hm
  obtain ⟨o, eo⟩ := (S.at_.hf y hy).some
  rw [e, na] at eo; cases eo
 refine ⟨⟨S.at_.addF hn (by rw [List.map_append]; exact hd) ha ho, ?_⟩, ⟨rfl, fun b hb => ?_, fun b o e hf => ho b o (fun z => hf (by rw [z]; exact .inr (.inr (.inl rfl)))) e, fun b hb => ?_⟩⟩
 ·have := S.rel.add hid w
  show SH.Rel k.sl ((k.fs ++ [(a, f)]).map (·.2)) k.g _
  rw [List.map_append]
  exact this
 ·cases e : H b with
  | none => rfl
  | some o =>
   by_cases z : b = k.da
   ·rw [z, hd] at hb; cases hb
   ·rw [ho b o z e] at hb; cases hb
 ·rcases foot_addF b hb with z | z
  ·exact .inl z
  ·rw [z]; exact .inr na
theorem Sta.addFO (S : Sta c H k s) {a b : Addr} {f : Flight} {p : Nat} {x : Slot} {o : Option Int} (na : H a = none) (hp : k.ss[p]? = some (b, x)) (ha : IsFl c.F H1 a f) (hb : IsSl c.S H1 b { x with owner := o })
  (hd : H1 k.da = some (.dK ((k.fs.map fun y => (Sum.inl y.2.id, V.ref y.1)) ++ [(Sum.inl f.id, V.ref a)]))) (ho : ∀ y o, y ≠ k.da -> y ≠ b -> H y = some o -> H1 y = some o)
  (hid : ∀ g ∈ s.flights, g.id ≠ f.id) (w : Wf (Vbahas.setOwner { s with flights := Vbahas.withFlight s.flights f } p o)) :
  Sta c H1 { k with fs := k.fs ++ [(a, f)], ss := k.ss.set p (b, { x with owner := o }) } (Vbahas.setOwner { s with flights := Vbahas.withFlight s.flights f } p o) /\ Fra H H1 k { k with fs := k.fs ++ [(a, f)], ss := k.ss.set p (b, { x with owner := o }) } := by
 have hn : a ∉ k.fs.map (·.1) := fun hm => by
  obtain ⟨y, hy, e⟩ := List.mem_map.mp hm
  obtain ⟨o, eo⟩ := (S.at_.hf y hy).some
  rw [e, na] at eo; cases eo
 have A1 : At c (fun y => if y = b then H1 b else H y) { k with ss := k.ss.set p (b, { x with owner := o }) } := S.at_.setS hp (let ⟨d, e⟩ := hb; ⟨d, by show (if b = b then H1 b else H b) = _; rw [if_pos rfl]; exact e⟩) fun y hy => if_neg hy
 have A2 : At c H1 { k with fs := k.fs ++ [(a, f)], ss := k.ss.set p (b, { x with owner := o }) } := At.addF (k := { k with ss := k.ss.set p (b, { x with owner := o }) }) A1 hn (by rw [List.map_append]; exact hd) ha fun y o' hy e => by
  by_cases z : y = b
  ·subst z; rw [if_pos rfl] at e; exact e
  ·rw [if_neg z] at e; exact ho y o' hy z e
 have nbd : b ≠ k.da := by
  obtain ⟨d, e⟩ := S.at_.slot hp
  exact ne_of e S.at_.hd (fun z => nomatch z)
 refine ⟨⟨A2, ?_⟩, ⟨rfl, fun y hy => ?_, fun y o' e hf => ho y o' (fun z => hf (by rw [z]; exact .inr (.inr (.inl rfl)))) (fun z => hf (by rw [z]; exact foot_slot hp)) e, fun y hy => ?_⟩⟩
 ·have e2 : (k.ss.set p (b, { x with owner := o })).map (·.2) = ownAt k.sl p o := by
   rw [List.map_set]
   exact (ownAt_set _ _ _ (by rw [List.getElem?_map, hp]; rfl)).symm
  show SH.Rel ((k.ss.set p (b, { x with owner := o })).map (·.2)) ((k.fs ++ [(a, f)]).map (·.2)) k.g _
  rw [e2, List.map_append]
  exact S.rel.addO hid w
 ·cases e : H y with
  | none => rfl
  | some o' =>
   by_cases z : y = k.da
   ·rw [z, hd] at hy; cases hy
   ·by_cases z2 : y = b
    ·obtain ⟨q, e'⟩ := hb.some; rw [z2, e'] at hy; cases hy
    ·rw [ho y o' z z2 e] at hy; cases hy
 ·rcases foot_addF (k := { k with ss := k.ss.set p (b, { x with owner := o }) }) y hy with z | z
  ·exact .inl (foot_setS hp y z)
  ·rw [z]; exact .inr na
end
section
variable {P : Program} {w : World} {K : PySem.W.Frag} {mg : Str -> Option Value} {base : Heap} {c : Cs}
theorem sc_add_flight : FSc ["house", "number", "carrier", "planned", "weight", "flight", "place"] ["house", "number", "carrier", "planned", "weight"] (dSc s_add_flight) := ⟨rfl, rfl, rfl, by decide +kernel, rfl, by decide +kernel, by decide +kernel⟩
def sp_add_flight (c : Cs) : Sp := fun vs H Q _ => ∃ (k : Hs) (s : State) (i cc t wt : Int), vs = [.ref k.h, .int i, .int cc, .int t, .int wt] /\ Sta c H k s /\ Vbahas.inRange (.flight i cc t wt) = true /\ Ans c H k (Vbahas.stepFlight s i cc t wt) Q
theorem stepFlight_there {s : State} {i cc t wt : Int} {f : Flight} (h : Vbahas.flightOf s i = some f) : Vbahas.stepFlight s i cc t wt = (s, [-4]) := by
 unfold Vbahas.stepFlight
 dsimp only
 rw [if_pos (by rw [h]; rfl)]
theorem stepFlight_new {s : State} {i cc t wt : Int} (h : Vbahas.flightOf s i = none) : Vbahas.stepFlight s i cc t wt =
  if 60 <= s.flights.length then (s, [-8]) else if s.given = false then ({ s with flights := Vbahas.withFlight s.flights (newF i cc t wt) }, [0, 0, 0, 0])
  else match Vbahas.spare s (newF i cc t wt) false with
   | none => (s, [-7])
   | some p => (Vbahas.setOwner { s with flights := Vbahas.withFlight s.flights { newF i cc t wt with place := some p } } p (some cc), 0 :: Vbahas.placeTold (Vbahas.setOwner { s with flights := Vbahas.withFlight s.flights { newF i cc t wt with place := some p } } p (some cc)) { newF i cc t wt with place := some p }) := by
 unfold Vbahas.stepFlight
 dsimp only
 rw [if_neg (by rw [h]; simp)]
 rfl
theorem ok_add_flight (T : Txt K mg c) (D : DefAt K mg "add_flight" s_add_flight ["house", "number", "carrier", "planned", "weight"]) (O_open_places_of : Ok P w K mg base 3 "open_places_of" ["house", "owners"] (sp_open_places_of c))
  (O_first_place_from : Ok P w K mg base 2 "first_place_from" ["house", "time", "places"] (sp_first_place_from c)) (O_take_place : Ok P w K mg base 2 "take_place" ["house", "flight", "place"] (sp_take_place c)) (O_told_slot : Ok P w K mg base 3 "told_slot" ["house", "flight"] (sp_told_slot c))
  (O_Flight : MkOk P w K mg base 1 "Flight" c.F ["self", "number", "carrier", "planned", "weight"] (sp_Flight c)) :
  Ok P w K mg base 4 "add_flight" ["house", "number", "carrier", "planned", "weight"] (sp_add_flight c) := by
 refine mkOk D sc_add_flight (fun vs H Q E h => ?_) fun f cdv A outer s H vs Q E hr h => ?_
 ·obtain ⟨k, s, i, cc, t, wt, rfl, _⟩ := h; rfl
 ·obtain ⟨k, s, i, cc, t, wt, rfl, hS, hin, q⟩ := h
  have nd := sc_add_flight.nd
  have hu := hu_of hr
  have hA := hS.at_
  have hwf := wf_flight hS.rel.wf hin
  refine ⟨_, (bC (ps_if (pt_cmp (pc_din hu (pv 1) (pf_flights T (pv 0)))) (bO (pRt (pe_lst (aC (gIn T.c_THERE_ALREADY rfl) aN)))) bN)
   (bC (ps_if (tCm op_ge (pe_callB call_lenD (by rfl) T.b_len PySem.boot_len (aC (pf_flights T (pv 0)) aN)) (gIn T.c_MOST_FLIGHTS rfl) (nMk _)) (bO (pRt (pe_lst (aC (gIn T.c_FULL rfl) aN)))) bN)
   (bC (ps_set (i := 5) nd rfl (by first | exact Or.inl rfl | exact Or.inr rfl) (pe_new O_Flight hr rfl (aC (pv 1) (aC (pv 2) (aC (pv 3) (aC (pv 4) aN))))))
   (bC (ps_if (pt_val (pf_given_out T (pv 0))) (bC (ps_set (i := 6) nd rfl (by first | exact Or.inl rfl | exact Or.inr rfl) (pe_fn O_first_place_from hr rfl (aC (pv 0) (aC (pf_ready T (pv 5)) (aC (pe_fn O_open_places_of hr rfl (aC (pv 0) (aC (pe_lst (aC (gIn T.c_NOBODY rfl) aN)) aN))) aN)))))
   (bC (ps_if (tCm op_eq (pv 6) (gIn T.c_NO_PLACE rfl) (nMk _)) (bO (pRt (pe_lst (aC (gIn T.c_NO_SLOT_FOR_IT rfl) aN)))) bN)
   (bO (ps_expr (pe_fn O_take_place hr rfl (aC (pv 0) (aC (pv 5) (aC (pv 6) aN)))))))) bN)
   (bC (ps_dput hu (pf_flights T (pv 0)) (pv 1) (pv 5) rfl)
   (bO (pRt (pe_op op_cat (pe_lst (aC pe_int aN)) (pe_fn O_told_slot hr rfl (aC (pv 0) (aC (pv 5) aN))))))))))), ?_⟩
  refine ⟨_, rfl, _, rfl, k.h, (k.la, k.da, k.g), rfl, hA.hh, k.da, _, rfl, DGet.k (k := Sum.inl i) hA.hd, _, rfl, ?_⟩
  rw [dget]
  rcases hS.look i with ⟨hn, hfn⟩ | ⟨j, a, f, hj, hi, hfd, hfo⟩
  case inr =>
   rw [stepFlight_there hfo] at q
   rw [hfd]
   exact ⟨zl1, (q.ro hS rfl (Same.refl H)).of (Same.refl H)⟩
  rw [hn]
  have hval : valV (k.fs.map fun x => ((Sum.inl x.2.id : Key), V.ref x.1)) (Sum.inl i) = none := by rw [dget, hn]; rfl
  have hidn : ∀ g ∈ s.flights, g.id ≠ i := flightOf_none hfn
  rw [stepFlight_new hfn] at q hwf
  refine ⟨_, rfl, k.h, (k.la, k.da, k.g), rfl, hA.hh, k.da, _, rfl, hA.hd, _, _, rfl, rfl, _, rfl, iteD (fun e1 => ?_) fun e1 => ?_⟩
  ·rw [if_pos (by rw [<- hS.rel.len, Hs.fl_len]; rw [List.length_map] at e1; omega)] at q
   exact ⟨zl1, (q.ro hS rfl (Same.refl H)).of (Same.refl H)⟩
  have e1' : ¬ 60 <= s.flights.length := by rw [<- hS.rel.len, Hs.fl_len]; rw [List.length_map] at e1; omega
  have hflen : k.fs.length < 60 := by rw [List.length_map] at e1; omega
  rw [if_neg e1'] at q hwf
  refine ⟨_, rfl, _, rfl, _, rfl, _, rfl, fun x dx hx hdx ndx => ⟨x, dx, i, cc, t, wt, rfl, uS, fun H2 hfl ho2 => ⟨rfl, ?_⟩⟩⟩
  have sm : Same H H2 := made_same hx hdx ho2
  have hS2 := hS.same sm
  have hA2 := hS2.at_
  have hnot : x ∉ k.fs.map (·.1) := fun hm => by
   obtain ⟨y, hy, e⟩ := List.mem_map.mp hm
   obtain ⟨o, eo⟩ := (hA.hf y hy).some
   rw [e, hx] at eo; cases eo
  refine ⟨_, rfl, k.h, (k.la, k.da, k.g), rfl, hA2.hh, _, rfl, iteB (fun eg => ?_) fun eg => ?_⟩
  ·-- slots have been given out
   have eg' : ¬ s.given = false := by rw [hS.rel.gv, show k.g = true from eg]; simp
   rw [if_neg eg'] at q hwf
   refine ⟨_, rfl, _, rfl, x, newF i cc t wt, rfl, hfl, _, rfl, zl1, fun o ho => ?_⟩
   refine ⟨k, s, o, [-1], rfl, hS2.same (Same.upd ho), uS, fun l H3 hl s3 el => ?_⟩
   have s23 : Same H2 H3 := (Same.upd ho).trans s3
   have hS3 := hS2.same s23
   have hfl3 : IsFl c.F H3 x (newF i cc t wt) := let ⟨d, e⟩ := hfl; ⟨d, s23 _ _ e⟩
   have ob : ∀ p ∈ openL k.sl k.fl [-1], p < k.ss.length := fun p hp => by
    have := List.mem_range.mp (List.mem_filter.mp (List.mem_filter.mp hp).1).1
    rw [Hs.sl_len] at this; exact this
   refine ⟨k, t, l, openL k.sl k.fl [-1], rfl, hS3.at_, el, ob, ?_⟩
   have hsp : (openL k.sl k.fl [-1]).find? (fun p => decide (t <= tOf k.sl p)) = Vbahas.spare s (newF i cc t wt) false := hS.rel.spare0 (newF i cc t wt)
   rw [hsp]
   refine ⟨_, rfl, rfl, _, rfl, iteI (fun e4 => ?_) fun e4 => ?_⟩
   ·rw [pI_zero.mp e4] at q
    exact ⟨zl1, (q.ro hS rfl (sm.trans s23)).of (Same.refl H3)⟩
   ·cases hq : Vbahas.spare s (newF i cc t wt) false with
    | none => exact (e4 (by rw [hq]; rfl)).elim
    | some r =>
     rw [hq] at q hwf
     dsimp only at q hwf
     have hrl : r < k.ss.length := by
      have := (spare_some hS.rel.wf hq).1
      rw [hS.rel.sl, Hs.sl_len] at this; exact this
     obtain ⟨d, z, hdz⟩ := Hs.get hrl
     refine ⟨_, rfl, _, rfl, _, rfl, k, x, d, newF i cc t wt, z, r, rfl, hS3.at_, hfl3, hdz, .inr hnot, fun H4 ha4 hd4 ho4 => ?_⟩
     have nxd : x ≠ d := fl_ne_sl hfl3 (hS3.at_.slot hdz)
     obtain ⟨dh, eh⟩ := hS3.at_.hh
     have nhx : k.h ≠ x := nN hA.hh.choose_spec hx
     have nhd : k.h ≠ d := ne_of eh (hS3.at_.slot hdz).choose_spec (ins_ne fun z => sfs_hfs _ _ _ _ z.symm)
     have ndx' : k.da ≠ x := nN hA.hd hx
     have ndd : k.da ≠ d := ne_of hS3.at_.hd (hS3.at_.slot hdz).choose_spec (fun z => nomatch z)
     refine ⟨_, rfl, _, rfl, k.h, (k.la, k.da, k.g), rfl, ⟨dh, by rw [ho4 _ nhx nhd]; exact eh⟩, _, rfl, k.da, _, rfl, DPut.k (k := Sum.inl i) (by rw [ho4 _ ndx' ndd]; exact hS3.at_.hd) (small1000 (by rw [List.length_map]; omega)), ?_⟩
     rw [putK_new _ hval]
     obtain ⟨S5, F5⟩ := hS.addFO (H1 := upd H4 k.da (.dK ((k.fs.map fun y => (Sum.inl y.2.id, V.ref y.1)) ++ [(Sum.inl i, V.ref x)]))) (f := { newF i cc t wt with place := some r }) (o := some cc) hx hdz
      (let ⟨d', e'⟩ := ha4; ⟨d', by rw [uN (Ne.symm ndx')]; exact e'⟩) (let ⟨d', e'⟩ := hd4; ⟨d', by rw [uN (Ne.symm ndd)]; exact e'⟩) uS (fun y o' h1 h2 e' => by rw [uN h1, ho4 y (nN e' hx) h2]; exact s23 _ _ (sm _ _ e')) hidn hwf
     refine ⟨zl1, fun l1 hl1 => ?_⟩
     refine ⟨_, rfl, _, rfl, { k with fs := k.fs ++ [(x, { newF i cc t wt with place := some r })], ss := k.ss.set r (d, { z with owner := some cc }) }, _, (x, { newF i cc t wt with place := some r }), rfl, S5.same (Same.upd hl1), List.mem_append_right _ (List.mem_singleton.mpr rfl), fun l2 H6 hl2 s6 el6 => ?_⟩
     refine ⟨l1, l2, _, _, rfl, rfl, s6 _ _ uS, el6, ?_, fun l3 hl3 => ?_⟩
     ·rw [List.length_map, told_len]; show 1 + 3 <= sizeLine; decide
     ·have es : Vbahas.placeTold (Vbahas.setOwner { s with flights := Vbahas.withFlight s.flights { newF i cc t wt with place := some r } } r (some cc)) { newF i cc t wt with place := some r } = toldL ({ k with fs := k.fs ++ [(x, { newF i cc t wt with place := some r })], ss := k.ss.set r (d, { z with owner := some cc }) } : Hs).sl { newF i cc t wt with place := some r } := by
       rw [told_eq]
       congr 1
       exact S5.rel.sl
      rw [es] at q
      exact (q.fin S5 F5).of ((Same.upd hl1).trans s6) l3 hl3
  ·have eg' : s.given = false := by rw [hS.rel.gv]; exact eg
   rw [if_pos eg'] at q hwf
   have ndx' : k.da ≠ x := nN hA.hd hx
   refine ⟨_, rfl, _, rfl, k.h, (k.la, k.da, k.g), rfl, hA2.hh, _, rfl, k.da, _, rfl, DPut.k (k := Sum.inl i) hA2.hd (small1000 (by rw [List.length_map]; omega)), ?_⟩
   rw [putK_new _ hval]
   obtain ⟨S5, F5⟩ := hS.addF (H1 := upd H2 k.da (.dK ((k.fs.map fun y => (Sum.inl y.2.id, V.ref y.1)) ++ [(Sum.inl i, V.ref x)]))) (f := newF i cc t wt) hx
    (let ⟨d', e'⟩ := hfl; ⟨d', by rw [uN (Ne.symm ndx')]; exact e'⟩) uS (fun y o' h1 e' => by rw [uN h1]; exact sm _ _ e') hidn hwf
   refine ⟨zl1, fun l1 hl1 => ?_⟩
   refine ⟨_, rfl, _, rfl, { k with fs := k.fs ++ [(x, newF i cc t wt)] }, _, (x, newF i cc t wt), rfl, S5.same (Same.upd hl1), List.mem_append_right _ (List.mem_singleton.mpr rfl), fun l2 H6 hl2 s6 el6 => ?_⟩
   refine ⟨l1, l2, _, _, rfl, rfl, s6 _ _ uS, el6, ?_, fun l3 hl3 => ?_⟩
   ·rw [List.length_map, told_len]; show 1 + 3 <= sizeLine; decide
   ·exact (q.fin S5 F5).of ((Same.upd hl1).trans s6) l3 hl3
end
end SHP
end
section
namespace SHP
open PySem PySem.Spec PyProof.Rows L2 SH
open Vbahas (Slot Flight State)
theorem seated_at {s : State} {i : Int} {f : Flight} (h : Vbahas.flightOf s i = some f) (w : FOk s.slots s.given f) {p : Nat} (hp : f.place = some p) : Vbahas.seated s i = some f := by
 unfold Vbahas.seated
 rw [h]
 dsimp only
 rw [if_pos]
 refine ⟨?_, by rw [hp]; rfl⟩
 cases hg : f.gone with
 | false => rfl
 | true => rw [w.gone hg] at hp; cases hp
theorem seated_no {s : State} {i : Int} {f : Flight} (h : Vbahas.flightOf s i = some f) (hp : f.place = none) : Vbahas.seated s i = none := by
 unfold Vbahas.seated
 rw [h]
 dsimp only
 rw [if_neg]
 rw [hp]
 rintro ⟨_, h⟩
 cases h
theorem Rel.fokS {sl : List Slot} {fl : List Flight} {g : Bool} {s : State} (R : SH.Rel sl fl g s) {f : Flight} (hf : f ∈ fl) : FOk s.slots s.given f := R.wf.fo f (R.mem.mp hf)
section
variable {c : Cs} {H H1 : Hp} {k : Hs} {s : State}
theorem At.putFO (A : At c H k) {j p : Nat} {a b : Addr} {f f' : Flight} {x x' : Slot} (hj : k.fs[j]? = some (a, f)) (hp : k.ss[p]? = some (b, x)) (hi : f'.id = f.id) (ha : IsFl c.F H1 a f') (hb : IsSl c.S H1 b x') (ho : ∀ y, y ≠ a -> y ≠ b -> H1 y = H y) :
  At c H1 { k with fs := k.fs.set j (a, f'), ss := k.ss.set p (b, x') } /\ Fra H H1 k { k with fs := k.fs.set j (a, f'), ss := k.ss.set p (b, x') } := by
 refine ⟨A.setFS hj hp hi ha hb ho, ⟨rfl, fun y hy => ?_, fun y o' e hn => ?_, fun y hy => .inl ?_⟩⟩
 ·by_cases z1 : y = a
  ·obtain ⟨q, e⟩ := ha.some; rw [z1, e] at hy; cases hy
  ·by_cases z2 : y = b
   ·obtain ⟨q, e⟩ := hb.some; rw [z2, e] at hy; cases hy
   ·rw [<- ho y z1 z2]; exact hy
 ·rw [ho y (fun z => hn (by rw [z]; exact foot_flight hj)) fun z => hn (by rw [z]; exact foot_slot hp)]; exact e
 ·have h1 := foot_setS (k := { k with fs := k.fs.set j (a, f') }) (x' := x') hp y hy
  exact foot_setF hj y h1
theorem fl_setFF {k : Hs} (hn : (k.fl.map (·.id)).Nodup) {j i : Nat} {a b : Addr} {f f' g g' : Flight} (hj : k.fs[j]? = some (a, f)) (hi : k.fs[i]? = some (b, g)) (hne : i ≠ j) (ef : f'.id = f.id) (eg : g'.id = g.id) :
  (((k.fs.set j (a, f')).set i (b, g')).map (·.2)) = (k.fl.map (SH.putF f')).map (SH.putF g') := by
 have e1 : (k.fs.set j (a, f')).map (·.2) = k.fl.map (SH.putF f') := by
  rw [List.map_set]
  exact set_putF hn (by unfold Hs.fl; rw [List.getElem?_map, hj]; rfl) ef
 have hn' : ((k.fl.map (SH.putF f')).map (·.id)).Nodup := by
  rw [List.map_map]
  have : ((·.id) ∘ SH.putF f' : Flight -> Int) = (·.id) := funext fun x => putF_id
  rw [this]; exact hn
 rw [List.map_set, e1]
 refine set_putF (f := g) hn' ?_ eg
 rw [<- e1, List.getElem?_map, List.getElem?_set_ne (Ne.symm hne), hi]
 rfl
theorem sl_setSS {k : Hs} {p r : Nat} {a b : Addr} {x y : Slot} {o o' : Option Int} (hp : k.ss[p]? = some (a, x)) (hr : k.ss[r]? = some (b, y)) (hne : p ≠ r) :
  ((k.ss.set r (b, { y with owner := o })).set p (a, { x with owner := o' })).map (·.2) = ownAt (ownAt k.sl p o') r o := by
 have ep : k.sl[p]? = some x := by unfold Hs.sl; rw [List.getElem?_map, hp]; rfl
 have er : k.sl[r]? = some y := by unfold Hs.sl; rw [List.getElem?_map, hr]; rfl
 rw [List.map_set, List.map_set]
 apply List.ext_getElem?
 intro q
 rw [ownAt_get, ownAt_get]
 show ((k.sl.set r { y with owner := o }).set p { x with owner := o' })[q]? = _
 by_cases z1 : q = p
 ·subst z1
  rw [List.getElem?_set_self (by rw [List.length_set]; exact (List.getElem?_eq_some_iff.mp ep).1), ep]
  simp [hne]
 ·by_cases z2 : q = r
  ·subst z2
   rw [List.getElem?_set_ne (Ne.symm z1), List.getElem?_set_self (List.getElem?_eq_some_iff.mp er).1, er]
   simp [z1]
  ·rw [List.getElem?_set_ne (Ne.symm z1), List.getElem?_set_ne (Ne.symm z2)]
   cases k.sl[q]? <;> simp [z1, z2]
end
theorem Rel.exch {sl : List Slot} {fl : List Flight} {g : Bool} {s : State} (R : SH.Rel sl fl g s) {f k : Flight} (hf : f ∈ fl) (hk : k ∈ fl) (hne : f.id ≠ k.id) {p q : Nat} (hp : f.place = some p) (hq : k.place = some q) (h1 : f.ready <= tOf sl q) (h2 : k.ready <= tOf sl p) :
  SH.Rel (ownAt (ownAt sl p (some k.carrier)) q (some f.carrier)) ((fl.map (SH.putF { f with place := some q })).map (SH.putF { k with place := some p })) g (Vbahas.exchanged s f k) := by
 have w := exchanged_wf R.wf (R.mem.mp hf) (R.mem.mp hk) hne hp hq (by rw [R.sl]; exact h1) (by rw [R.sl]; exact h2)
 have e := exchanged_eq (s := s) hp hq
 refine ⟨?_, by rw [e]; exact R.gv, by rw [e]; exact (R.pm.map _).map _, w⟩
 rw [e]
 show ownAt (ownAt s.slots p (some k.carrier)) q (some f.carrier) = _
 rw [R.sl]
section
variable {P : Program} {w : World} {K : PySem.W.Frag} {mg : Str -> Option Value} {base : Heap} {c : Cs}
theorem sc_may_change : FSc ["house", "first", "second"] ["house", "first", "second"] (dSc s_may_change) := ⟨rfl, rfl, rfl, by decide +kernel, rfl, by decide +kernel, by decide +kernel⟩
def sp_may_change (c : Cs) : Sp := fun vs H Q _ => ∃ (k : Hs) (a b d e : Addr) (f g : Flight) (p r : Nat) (x y : Slot), vs = [.ref k.h, .ref a, .ref b] /\ At c H k /\ IsFl c.F H a f /\ IsFl c.F H b g /\ f.place = some p /\ g.place = some r /\ k.ss[p]? = some (d, x) /\ k.ss[r]? = some (e, y) /\
 Q (.bl (decide (f.ready <= y.time) && decide (g.ready <= x.time))) H
theorem ok_may_change (T : Txt K mg c) (D : DefAt K mg "may_change" s_may_change ["house", "first", "second"]) (O_slot_at : Ok P w K mg base 1 "slot_at" ["house", "place"] (sp_slot_at c)) (O_may_have : Ok P w K mg base 1 "may_have" ["flight", "slot"] (sp_may_have c)) : Ok P w K mg base 2 "may_change" ["house", "first", "second"] (sp_may_change c) := by
 refine mkOk D sc_may_change (fun vs H Q E h => ?_) fun f cdv A outer s H vs Q E hr h => ?_
 ·obtain ⟨k, a, b, d, e, f, g, p, r, x, y, rfl, _⟩ := h; rfl
 ·obtain ⟨k, a, b, d, e, f, g, p, r, x, y, rfl, hA, fa, gb, hp, hr', hx, hy, q⟩ := h
  refine ⟨_, (bO (pRt (pe_and (pe_fn O_may_have hr rfl (aC (pv 1) (aC (pe_fn O_slot_at hr rfl (aC (pv 0) (aC (pf_place T (pv 2)) aN))) aN))) (pe_one (pe_fn O_may_have hr rfl (aC (pv 2) (aC (pe_fn O_slot_at hr rfl (aC (pv 0) (aC (pf_place T (pv 1)) aN))) aN))))))), ?_⟩
  refine ⟨_, rfl, _, rfl, _, rfl, b, g, rfl, gb, k, r, e, y, (by show [V.ref k.h, V.int (pI g.place)] ++ [] = _; rw [hr']; rfl), hA, hy, a, e, f, y, rfl, fa, hA.slot hy, _, rfl, ?_⟩
  by_cases e5 : f.ready <= y.time
  case neg =>
   rw [decide_eq_false e5] at q ⊢
   exact q
  rw [decide_eq_true e5] at q ⊢
  exact ⟨_, rfl, _, rfl, _, rfl, a, f, rfl, fa, k, p, d, x, (by show [V.ref k.h, V.int (pI f.place)] ++ [] = _; rw [hp]; rfl), hA, hx, b, d, g, x, rfl, gb, hA.slot hx, q⟩
theorem sc_two_of_one_carrier : FSc ["first", "second"] ["first", "second"] (dSc s_two_of_one_carrier) := ⟨rfl, rfl, rfl, by decide +kernel, rfl, by decide +kernel, by decide +kernel⟩
def sp_two_of_one_carrier (c : Cs) : Sp := fun vs H Q _ => ∃ (a b : Addr) (f g : Flight), vs = [.ref a, .ref b] /\ IsFl c.F H a f /\ IsFl c.F H b g /\ Q (.bl (decide (f.carrier = g.carrier /\ f.id ≠ g.id))) H
theorem ok_two_of_one_carrier (T : Txt K mg c) (D : DefAt K mg "two_of_one_carrier" s_two_of_one_carrier ["first", "second"]) : Ok P w K mg base 1 "two_of_one_carrier" ["first", "second"] (sp_two_of_one_carrier c) := by
 refine mkOk D sc_two_of_one_carrier (fun vs H Q E h => ?_) fun f cdv A outer s H vs Q E hr h => ?_
 ·obtain ⟨a, b, f, g, rfl, _⟩ := h; rfl
 ·obtain ⟨a, b, f, g, rfl, fa, gb, q⟩ := h
  refine ⟨_, (bO (pRt (pe_and (pe_cmpR op_eq (pf_carrier T (pv 0)) (pf_carrier T (pv 1)) (nMk _)) (pe_one (pe_cmpR op_ne (pf_number T (pv 0)) (pf_number T (pv 1)) (nMk _)))))), ?_⟩
  refine ⟨_, rfl, a, f, rfl, fa, _, rfl, b, g, rfl, gb, rfl, _, rfl, iteI (fun e => ?_) fun e => ?_⟩
  ·refine ⟨_, rfl, a, f, rfl, fa, _, rfl, b, g, rfl, gb, rfl, ?_⟩
   have : (!decide (V.int f.id = V.int g.id)) = decide (f.carrier = g.carrier /\ f.id ≠ g.id) := by
    rw [dec_int']
    by_cases z : f.id = g.id <;> simp [z, e]
   rw [this]
   exact q
  ·have : decide (f.carrier = g.carrier /\ f.id ≠ g.id) = false := decide_eq_false fun z => e z.1
   rw [this] at q
   exact q
theorem sc_change_places : FSc ["house", "first", "second", "place"] ["house", "first", "second"] (dSc s_change_places) := ⟨rfl, rfl, rfl, by decide +kernel, rfl, by decide +kernel, by decide +kernel⟩
def sp_change_places (c : Cs) : Sp := fun vs H Q _ => ∃ (k : Hs) (s : State) (x y : Nat) (a b : Addr) (f g : Flight) (p r : Nat), vs = [.ref k.h, .ref a, .ref b] /\ Sta c H k s /\ k.fs[x]? = some (a, f) /\ k.fs[y]? = some (b, g) /\ y ≠ x /\ f.place = some p /\ g.place = some r /\ f.ready <= tOf k.sl r /\ g.ready <= tOf k.sl p /\
 ∀ H' k', Sta c H' k' (Vbahas.exchanged s f g) -> Fra H H' k k' -> k'.fs = (k.fs.set x (a, { f with place := some r })).set y (b, { g with place := some p }) -> Q .non H'
theorem ok_change_places (T : Txt K mg c) (D : DefAt K mg "change_places" s_change_places ["house", "first", "second"]) (O_take_place : Ok P w K mg base 2 "take_place" ["house", "flight", "place"] (sp_take_place c)) : Ok P w K mg base 3 "change_places" ["house", "first", "second"] (sp_change_places c) := by
 refine mkOk D sc_change_places (fun vs H Q E h => ?_) fun f cdv A outer s H vs Q E hr h => ?_
 ·obtain ⟨k, s, x, y, a, b, f, g, p, r, rfl, _⟩ := h; rfl
 ·obtain ⟨k, s, x, y, a, b, f, g, p, r, rfl, hS, hx, hy, hxy, hp, hr', h1, h2, q⟩ := h
  have nd := sc_change_places.nd
  have hA := hS.at_
  have fm : (a, f) ∈ k.fs := List.mem_of_getElem? hx
  have gm : (b, g) ∈ k.fs := List.mem_of_getElem? hy
  have fa := hA.flight hx
  have gb := hA.flight hy
  have nab : a ≠ b := fst_ne hA.nf hx hy (Ne.symm hxy)
  have hne : f.id ≠ g.id := fun z => hxy (nd_ix hS.rel.ids (x := f.id) (by unfold Hs.fl; rw [List.getElem?_map, List.getElem?_map, hy]; show some g.id = _; rw [z]) (by unfold Hs.fl; rw [List.getElem?_map, List.getElem?_map, hx]; rfl))
  have npr : p ≠ r := fun z => hne (by have ez : f = g := hS.rel.inj (Hs.mem_fl fm) (Hs.mem_fl gm) hp (z ▸ hr'); rw [ez])
  obtain ⟨u, xp, hup⟩ := hS.place fm hp
  obtain ⟨v, xr, hvr⟩ := hS.place gm hr'
  have nuv : u ≠ v := fst_ne hA.ns hup hvr npr
  refine ⟨_, (bC (ps_set (i := 3) nd rfl (by first | exact Or.inl rfl | exact Or.inr rfl) (pf_place T (pv 1)))
   (bC (ps_expr (pe_fn O_take_place hr rfl (aC (pv 0) (aC (pv 1) (aC (pf_place T (pv 2)) aN)))))
   (bO (ps_expr (pe_fn O_take_place hr rfl (aC (pv 0) (aC (pv 2) (aC (pv 3) aN)))))))), ?_⟩
  refine ⟨_, rfl, a, f, rfl, fa, _, rfl, _, rfl, _, rfl, b, g, rfl, gb, k, a, v, f, xr, r, (by show [V.ref k.h, V.ref a, V.int (pI g.place)] ++ [] = _; rw [hr']; rfl), hA, fa, hvr, .inl ⟨x, hx⟩, fun H1 ha1 hv1 ho1 => ?_⟩
  obtain ⟨A1, F1⟩ := hA.putFO hx hvr (f' := { f with place := some r }) (x' := { xr with owner := some f.carrier }) rfl ha1 hv1 ho1
  have hy1 : (k.fs.set x (a, ({ f with place := some r } : Flight)))[y]? = some (b, g) := by rw [List.getElem?_set_ne (Ne.symm hxy)]; exact hy
  have hp1 : (k.ss.set r (v, ({ xr with owner := some f.carrier } : Slot)))[p]? = some (u, xp) := by rw [List.getElem?_set_ne (Ne.symm npr)]; exact hup
  refine ⟨_, rfl, _, rfl, _, rfl, { k with fs := k.fs.set x (a, { f with place := some r }), ss := k.ss.set r (v, { xr with owner := some f.carrier }) }, b, u, g, xp, p, (by show [V.ref k.h, V.ref b, V.int (pI f.place)] ++ [] = _; rw [hp]; rfl), A1, A1.flight hy1, hp1, .inl ⟨y, hy1⟩, fun H2 hb2 hu2 ho2 => ?_⟩
  obtain ⟨A2, F2⟩ := A1.putFO (k := { k with fs := k.fs.set x (a, { f with place := some r }), ss := k.ss.set r (v, { xr with owner := some f.carrier }) }) hy1 hp1 (f' := { g with place := some p }) (x' := { xp with owner := some g.carrier }) rfl hb2 hu2 ho2
  refine q H2 _ ⟨A2, ?_⟩ (F1.trans F2) rfl
  show SH.Rel (((k.ss.set r (v, { xr with owner := some f.carrier })).set p (u, { xp with owner := some g.carrier })).map (·.2)) (((k.fs.set x (a, { f with place := some r })).set y (b, { g with place := some p })).map (·.2)) k.g _
  rw [fl_setFF (f' := { f with place := some r }) (g' := { g with place := some p }) hS.rel.ids hx hy hxy rfl rfl, sl_setSS hup hvr npr]
  exact Rel.exch hS.rel (Hs.mem_fl fm) (Hs.mem_fl gm) hne hp hr' h1 h2
theorem sc_swap : FSc ["house", "one", "other", "first", "second", "before"] ["house", "one", "other"] (dSc s_swap) := ⟨rfl, rfl, rfl, by decide +kernel, rfl, by decide +kernel, by decide +kernel⟩
def sp_swap (c : Cs) : Sp := fun vs H Q _ => ∃ (k : Hs) (s : State) (i j : Int), vs = [.ref k.h, .int i, .int j] /\ Sta c H k s /\ Ans c H k (Vbahas.stepSwap s i j) Q
theorem ok_swap (T : Txt K mg c) (D : DefAt K mg "swap" s_swap ["house", "one", "other"]) (O_may_change : Ok P w K mg base 2 "may_change" ["house", "first", "second"] (sp_may_change c)) (O_two_of_one_carrier : Ok P w K mg base 1 "two_of_one_carrier" ["first", "second"] (sp_two_of_one_carrier c))
  (O_carrier_cost : Ok P w K mg base 3 "carrier_cost" ["house", "carrier"] (sp_carrier_cost c)) (O_change_places : Ok P w K mg base 3 "change_places" ["house", "first", "second"] (sp_change_places c)) : Ok P w K mg base 4 "swap" ["house", "one", "other"] (sp_swap c) := by
 refine mkOk D sc_swap (fun vs H Q E h => ?_) fun f cdv A outer s H vs Q E hr h => ?_
 ·obtain ⟨k, s, i, j, rfl, _⟩ := h; rfl
 ·obtain ⟨k, s, i, j, rfl, hS, q⟩ := h
  have nd := sc_swap.nd
  have hu := hu_of hr
  have hA := hS.at_
  refine ⟨_, (bC (ps_if (PW.pt (pw_or (pt_cmp (pc_dnotin hu (pv 1) (pf_flights T (pv 0)))) (pw_or1 (pt_cmp (pc_dnotin hu (pv 2) (pf_flights T (pv 0))))))) (bO (pRt (pe_lst (aC (gIn T.c_NOT_THERE rfl) aN)))) bN)
   (bC (ps_set (i := 3) nd rfl (by first | exact Or.inl rfl | exact Or.inr rfl) (pe_dget hu (pf_flights T (pv 0)) (pv 1) (fun _ _ => rfl)))
   (bC (ps_set (i := 4) nd rfl (by first | exact Or.inl rfl | exact Or.inr rfl) (pe_dget hu (pf_flights T (pv 0)) (pv 2) (fun _ _ => rfl)))
   (bC (ps_if (PW.pt (pw_or (tCm op_eq (pf_place T (pv 3)) (gIn T.c_NO_PLACE rfl) (nMk _)) (pw_or1 (tCm op_eq (pf_place T (pv 4)) (gIn T.c_NO_PLACE rfl) (nMk _))))) (bO (pRt (pe_lst (aC (gIn T.c_CANCELLED_OR_WITHOUT_SLOT rfl) aN)))) bN)
   (bC (ps_if (pt_not (pt_val (pe_fn O_two_of_one_carrier hr rfl (aC (pv 3) (aC (pv 4) aN))))) (bO (pRt (pe_lst (aC (gIn T.c_DO_NOT_FIT rfl) aN)))) bN)
   (bC (ps_if (pt_not (pt_val (pe_fn O_may_change hr rfl (aC (pv 0) (aC (pv 3) (aC (pv 4) aN)))))) (bO (pRt (pe_lst (aC (gIn T.c_MAY_NOT_HAVE rfl) aN)))) bN)
   (bC (ps_set (i := 5) nd rfl (by first | exact Or.inl rfl | exact Or.inr rfl) (pe_fn O_carrier_cost hr rfl (aC (pv 0) (aC (pf_carrier T (pv 3)) aN))))
   (bC (ps_expr (pe_fn O_change_places hr rfl (aC (pv 0) (aC (pv 3) (aC (pv 4) aN)))))
   (bO (pRt (pe_lst (aC pe_int (aC (pv 5) (aC (pe_fn O_carrier_cost hr rfl (aC (pv 0) (aC (pf_carrier T (pv 3)) aN))) aN)))))))))))))), ?_⟩
  refine ⟨_, rfl, _, rfl, k.h, (k.la, k.da, k.g), rfl, hA.hh, k.da, _, rfl, DGet.k (k := Sum.inl i) hA.hd, _, rfl, ?_⟩
  rw [dget]
  rcases hS.look i with ⟨hn, hfn⟩ | ⟨x, a, f, hx, hi, hfd, hfo⟩
  ·have e : Vbahas.stepSwap s i j = (s, [-5]) := by simp only [Vbahas.stepSwap, hfn]
   rw [e] at q
   rw [hn]
   exact ⟨zl1, (q.ro hS rfl (Same.refl H)).of (Same.refl H)⟩
  rw [hfd]
  refine ⟨_, rfl, _, rfl, k.h, (k.la, k.da, k.g), rfl, hA.hh, k.da, _, rfl, DGet.k (k := Sum.inl j) hA.hd, _, rfl, ?_⟩
  rw [dget]
  rcases hS.look j with ⟨hn, hfn⟩ | ⟨y, b, g, hy, hj, hgd, hgo⟩
  ·have e : Vbahas.stepSwap s i j = (s, [-5]) := by simp only [Vbahas.stepSwap, hfo, hfn]
   rw [e] at q
   rw [hn]
   exact ⟨zl1, (q.ro hS rfl (Same.refl H)).of (Same.refl H)⟩
  rw [hgd]
  have fm : (a, f) ∈ k.fs := List.mem_of_getElem? hx
  have gm : (b, g) ∈ k.fs := List.mem_of_getElem? hy
  have fa := hA.flight hx
  have gb := hA.flight hy
  have fw := Rel.fokS hS.rel (Hs.mem_fl fm)
  have gw := Rel.fokS hS.rel (Hs.mem_fl gm)
  refine ⟨_, rfl, k.h, (k.la, k.da, k.g), rfl, hA.hh, _, rfl, k.da, V.ref a, rfl, (by have := DGet.k (k := Sum.inl i) hA.hd; rw [dget, hfd] at this; exact this), ?_⟩
  refine ⟨_, rfl, k.h, (k.la, k.da, k.g), rfl, hA.hh, _, rfl, k.da, V.ref b, rfl, (by have := DGet.k (k := Sum.inl j) hA.hd; rw [dget, hgd] at this; exact this), ?_⟩
  refine ⟨_, rfl, a, f, rfl, fa, rfl, _, rfl, iteI (fun e1 => ?_) fun e1 => ?_⟩
  ·have e : Vbahas.stepSwap s i j = (s, [-9]) := by simp only [Vbahas.stepSwap, hfo, hgo, seated_no hfo (pI_zero.mp e1)]
   rw [e] at q
   exact ⟨zl1, (q.ro hS rfl (Same.refl H)).of (Same.refl H)⟩
  obtain ⟨p, hp⟩ : ∃ p, f.place = some p := by
   cases hz : f.place with
   | none => exact (e1 (by rw [hz]; rfl)).elim
   | some p => exact ⟨p, rfl⟩
  have sf := seated_at hfo fw hp
  refine ⟨_, rfl, b, g, rfl, gb, rfl, _, rfl, iteI (fun e2 => ?_) fun e2 => ?_⟩
  ·have e : Vbahas.stepSwap s i j = (s, [-9]) := by simp only [Vbahas.stepSwap, hfo, hgo, sf, seated_no hgo (pI_zero.mp e2)]
   rw [e] at q
   exact ⟨zl1, (q.ro hS rfl (Same.refl H)).of (Same.refl H)⟩
  obtain ⟨r, hr'⟩ : ∃ p, g.place = some p := by
   cases hz : g.place with
   | none => exact (e2 (by rw [hz]; rfl)).elim
   | some p => exact ⟨p, rfl⟩
  have sg := seated_at hgo gw hr'
  have est : Vbahas.stepSwap s i j = if f.carrier ≠ g.carrier \/ i = j then (s, [-10]) else if (Vbahas.fitsAt s f r && Vbahas.fitsAt s g p) = false then (s, [-11]) else (Vbahas.exchanged s f g, [0, Vbahas.cost s f.carrier, Vbahas.cost (Vbahas.exchanged s f g) f.carrier]) := by
   simp only [Vbahas.stepSwap, hfo, hgo, sf, sg, hp, hr', Option.getD_some]
  rw [est] at q
  refine ⟨_, rfl, _, rfl, a, b, f, g, rfl, fa, gb, _, rfl, ?_⟩
  by_cases e34 : f.carrier = g.carrier /\ f.id ≠ g.id
  case neg =>
   rw [decide_eq_false e34]
   rw [if_pos (by
    by_cases z : f.carrier = g.carrier
    ·refine .inr ?_
     rw [<- hi, <- hj]
     exact Classical.byContradiction fun z' => e34 ⟨z, z'⟩
    ·exact .inl z)] at q
   exact ⟨zl1, (q.ro hS rfl (Same.refl H)).of (Same.refl H)⟩
  rw [decide_eq_true e34]
  obtain ⟨e3, hne⟩ := e34
  have e4 : ¬ i = j := fun z => hne (by rw [hi, hj]; exact z)
  rw [if_neg (by rintro (z | z); exact z e3; exact e4 z)] at q
  obtain ⟨p', yp, hyp⟩ := hS.place fm hp
  obtain ⟨r', yr, hyr⟩ := hS.place gm hr'
  have tp : Vbahas.timeOf s p = yp.time := by rw [timeOf_eq, hS.rel.sl, Hs.tOf_ss hyp]
  have tr : Vbahas.timeOf s r = yr.time := by rw [timeOf_eq, hS.rel.sl, Hs.tOf_ss hyr]
  have lp : p < s.slots.length := by rw [hS.rel.sl, Hs.sl_len]; exact (List.getElem?_eq_some_iff.mp hyp).1
  have lr : r < s.slots.length := by rw [hS.rel.sl, Hs.sl_len]; exact (List.getElem?_eq_some_iff.mp hyr).1
  have ft : (Vbahas.fitsAt s f r && Vbahas.fitsAt s g p) = (decide (f.ready <= yr.time) && decide (g.ready <= yp.time)) := by
   unfold Vbahas.fitsAt
   rw [tp, tr, decide_eq_true lp, decide_eq_true lr, Bool.true_and, Bool.true_and]
  rw [ft] at q
  refine ⟨_, rfl, _, rfl, _, rfl, k, a, b, p', r', f, g, p, r, yp, yr, rfl, hA, fa, gb, hp, hr', hyp, hyr, _, rfl, ?_⟩
  cases e56 : (decide (f.ready <= yr.time) && decide (g.ready <= yp.time)) with
  | false =>
   rw [e56, if_pos rfl] at q
   exact ⟨zl1, (q.ro hS rfl (Same.refl H)).of (Same.refl H)⟩
  | true =>
  rw [e56, if_neg (by decide)] at q
  rw [Bool.and_eq_true, decide_eq_true_eq, decide_eq_true_eq] at e56
  obtain ⟨e5, e6⟩ := e56
  refine ⟨_, rfl, _, rfl, a, f, rfl, fa, k, s, f.carrier, rfl, hS, fun H1 s1 => ?_⟩
  have hxy : y ≠ x := fun z => hne (by subst z; rw [hx] at hy; injection hy with hy; injection hy with _ hy; rw [hy])
  have hS1 := hS.same s1
  refine ⟨_, rfl, _, rfl, _, rfl, k, s, x, y, a, b, f, g, p, r, rfl, hS1, hx, hy, hxy, hp, hr', (by rw [Hs.tOf_ss hyr]; exact e5), (by rw [Hs.tOf_ss hyp]; exact e6), fun H2 k2 S2 F2 efs => ?_⟩
  have hx2 : k2.fs[x]? = some (a, { f with place := some r }) := by
   rw [efs, List.getElem?_set_ne hxy, List.getElem?_set_self (List.getElem?_eq_some_iff.mp hx).1]
  have hh2 : k2.h = k.h := F2.h
  refine ⟨_, rfl, _, rfl, _, rfl, a, _, rfl, S2.at_.flight hx2, k2, _, f.carrier, (by rw [hh2]; rfl), S2, fun H3 s3 => ⟨zl3, ?_⟩⟩
  have e1 : Vbahas.cost s f.carrier = costL k.sl k.fl f.carrier := hS.rel.cost _
  have e2 : Vbahas.cost (Vbahas.exchanged s f g) f.carrier = costL k2.sl k2.fl f.carrier := S2.rel.cost _
  rw [e1, e2] at q
  exact (q.fin S2 ((Fra.same k s1).trans F2)).of s3
end
end SHP
end
section
namespace SHP
open PySem PySem.Spec PyProof.Rows L2 SH
open Vbahas (Slot Flight State)
def keyV (fs : List (Addr × Flight)) (key : Flight -> List Int) (v : V) : List Int := match fs.find? fun x => decide (V.ref x.1 = v) with
 | some x => key x.2
 | none => [0]
theorem keyV_mem {fs : List (Addr × Flight)} (hn : (fs.map (·.1)).Nodup) (key : Flight -> List Int) {x : Addr × Flight} (hx : x ∈ fs) : keyV fs key (refV x) = key x.2 := by
 unfold keyV
 cases h : fs.find? fun y => decide (V.ref y.1 = refV x) with
 | none =>
  have := List.find?_eq_none.mp h x hx
  simp [refV] at this
 | some y =>
  have hy := List.mem_of_find?_eq_some h
  have e : V.ref y.1 = refV x := of_decide_eq_true (List.find?_some (p := fun (y : Addr × Flight) => decide (V.ref y.1 = refV x)) h)
  have e : y.1 = x.1 := V.ref.inj e
  obtain ⟨i, hi⟩ := List.getElem?_of_mem hx
  obtain ⟨j, hj⟩ := List.getElem?_of_mem hy
  have : i = j := by
   apply Classical.byContradiction
   intro z
   exact fst_ne hn hj hi (Ne.symm z) e
  subst this
  rw [hi] at hj
  rw [Option.some.inj hj]
theorem keyV_ne {fs : List (Addr × Flight)} {key : Flight -> List Int} (hk : ∀ f, key f ≠ []) (v : V) : keyV fs key v ≠ [] := by
 unfold keyV
 split
 ·exact hk _
 ·simp
theorem pw_keyV {fs : List (Addr × Flight)} (hn : (fs.map (·.1)).Nodup) (key : Flight -> List Int) {m : List (Addr × Flight)} (hm : ∀ x ∈ m, x ∈ fs) (h : (m.map refV).Pairwise (fun a b => Vbahas.rowLess (keyV fs key b) (keyV fs key a) = false)) :
  (m.map (·.2)).Pairwise (fun a b => Vbahas.rowLess (key b) (key a) = false) := by
 rw [List.pairwise_map] at h ⊢
 refine h.imp_of_mem fun {a b} ha hb e => ?_
 rw [keyV_mem hn key (hm a ha), keyV_mem hn key (hm b hb)] at e
 exact e
theorem erase_ix {α : Type} [BEq α] [LawfulBEq α] {a : α} : ∀ {l : List α} {j : Nat}, l.Nodup -> l[j]? = some a -> l.erase a = l.eraseIdx j
 | [], j, _, h => by simp at h
 | b :: r, 0, _, h => by
  have e : b = a := Option.some.inj h
  subst e
  simp
 | b :: r, j + 1, hn, h => by
  obtain ⟨h1, h2⟩ := List.nodup_cons.mp hn
  have h : r[j]? = some a := by simpa using h
  have : b ≠ a := fun e => h1 (e ▸ List.mem_of_getElem? h)
  rw [List.erase_cons_tail (by simpa using this), erase_ix h2 h]
  rfl
theorem mem_eraseIdx_ne {α : Type} : ∀ {l : List α} {j : Nat} {a y : α}, l.Nodup -> l[j]? = some a -> y ∈ l.eraseIdx j -> y ∈ l /\ y ≠ a
 | [], j, a, y, _, h, _ => by simp at h
 | b :: r, 0, a, y, hn, h, hy => by
  obtain ⟨h1, h2⟩ := List.nodup_cons.mp hn
  have e : b = a := Option.some.inj h
  subst e
  have hy : y ∈ r := hy
  exact ⟨List.mem_cons_of_mem _ hy, fun z => h1 (z ▸ hy)⟩
 | b :: r, j + 1, a, y, hn, h, hy => by
  obtain ⟨h1, h2⟩ := List.nodup_cons.mp hn
  have h : r[j]? = some a := by simpa using h
  rcases List.mem_cons.mp (show y ∈ b :: r.eraseIdx j from hy) with e | hy
  ·subst e
   exact ⟨List.mem_cons_self, fun e => h1 (e ▸ List.mem_of_getElem? h)⟩
  ·obtain ⟨p, q⟩ := mem_eraseIdx_ne h2 h hy
   exact ⟨List.mem_cons_of_mem _ p, q⟩
section
variable {P : Program} {w : World} {K : PySem.W.Frag} {mg : Str -> Option Value} {base : Heap} {c : Cs}
theorem sc_best_order : FSc ["flight"] ["flight"] (dSc s_best_order) := ⟨rfl, rfl, rfl, by decide +kernel, rfl, by decide +kernel, by decide +kernel⟩
def sp_best_order (c : Cs) : Sp := fun vs H Q _ => ∃ (a : Addr) (f : Flight), vs = [.ref a] /\ IsFl c.F H a f /\ ∀ t, H t = none -> Q (.ref t) (upd H t (.tup ((wkey f).map V.int)))
theorem ok_best_order (T : Txt K mg c) (D : DefAt K mg "best_order" s_best_order ["flight"]) : Ok P w K mg base 1 "best_order" ["flight"] (sp_best_order c) := by
 refine mkOk D sc_best_order (fun vs H Q E h => ?_) fun f cdv A outer s H vs Q E hr h => ?_
 ·obtain ⟨a, f, rfl, _⟩ := h; rfl
 ·obtain ⟨a, f, rfl, ha, q⟩ := h
  refine ⟨_, (bO (pRt (pe_tup (aC (pe_un un_neg (pf_weight T (pv 0))) (aC (pf_number T (pv 0)) aN))))), ?_⟩
  exact ⟨_, rfl, a, f, rfl, ha, _, rfl, _, rfl, a, f, rfl, ha, zl2, fun p hp => q p hp⟩
theorem sc_first_that_may : FSc ["flights", "slot", "flight"] ["flights", "slot"] (dSc s_first_that_may) := ⟨rfl, rfl, rfl, by decide +kernel, rfl, by decide +kernel, by decide +kernel⟩
def refO (o : Option (Addr × Flight)) : V := match o with
 | some x => refV x
 | none => .non
def sp_first_that_may (c : Cs) : Sp := fun vs H Q _ => ∃ (l b : Addr) (m : List (Addr × Flight)) (y : Slot), vs = [.ref l, .ref b] /\ H l = some (.lst (m.map refV)) /\ (∀ x ∈ m, IsFl c.F H x.1 x.2) /\ IsSl c.S H b y /\ Q (refO (m.find? fun x => decide (x.2.ready <= y.time))) H
theorem ok_first_that_may (T : Txt K mg c) (D : DefAt K mg "first_that_may" s_first_that_may ["flights", "slot"]) (O_may_have : Ok P w K mg base 1 "may_have" ["flight", "slot"] (sp_may_have c)) : Ok P w K mg base 2 "first_that_may" ["flights", "slot"] (sp_first_that_may c) := by
 refine mkOk D sc_first_that_may (fun vs H Q E h => ?_) fun f cdv A outer s H vs Q E hr h => ?_
 ·obtain ⟨l, b, m, y, rfl, _⟩ := h; rfl
 ·obtain ⟨l, b, m, y, rfl, hl, hm, hb, q⟩ := h
  have nd := sc_first_that_may.nd
  refine ⟨_, (bC (ps_for PassesOwn.never rfl (pi_list (pv 0)) (pg_name (i := 2) nd rfl (Or.inl rfl)) (bO (ps_if (pt_val (pe_fn O_may_have hr rfl (aC (pv 2) (aC (pv 1) aN)))) (bO (pRt (pv 2))) bN)))
   (bO (pRt pe_non))), ?_⟩
  refine ⟨_, rfl, l, rfl, ⟨_, SqL.of hl⟩, for_list (K := K) (a := l) (xs := m.map refV) (fun i σ H2 => ∃ v, σ = [some (.ref l), some (.ref b), v] /\ H2 = H /\ ∀ x ∈ m.take i, decide (x.2.ready <= y.time) = false) ⟨none, rfl, rfl, fun x hx => by simp at hx⟩ ?_ ?_ ?_⟩
  ·rintro i σ H2 _ ⟨v, _, rfl, _⟩
   exact SqL.of hl
  ·rintro i v σ H2 hi ⟨u, rfl, rfl, hn⟩
   rw [List.getElem?_map] at hi
   obtain ⟨x, hx, rfl⟩ := Option.map_eq_some_iff.mp hi
   refine ⟨_, rfl, _, rfl, x.1, b, x.2, y, rfl, hm x (List.mem_of_getElem? hx), hb, _, rfl, iteD (fun e => ?_) fun e => ?_⟩
   ·refine ⟨_, rfl, ?_⟩
    have : (m.find? fun x => decide (x.2.ready <= y.time)) = some x := find_take hn hx (decide_eq_true e)
    rw [this] at q
    exact q
   ·refine ⟨_, rfl, rfl, fun z hz => ?_⟩
    rw [List.take_add_one, hx] at hz
    rcases List.mem_append.mp hz with hz | hz
    ·exact hn z hz
    ·have : z = x := by simpa using hz
     rw [this]
     exact decide_eq_false e
  ·rintro σ H2 ⟨v, rfl, rfl, hn⟩
   rw [List.length_map, List.take_length] at hn
   have : (m.find? fun x => decide (x.2.ready <= y.time)) = none := List.find?_eq_none.mpr fun z hz => by rw [hn z hz]; exact Bool.false_ne_true
   rw [this] at q
   exact q
end
end SHP
end
section
namespace SHP
open PySem PySem.Spec PyProof.Rows L2 SH
open Vbahas (Slot Flight State)
structure BestI (c : Cs) (H H2 : Hp) (k : Hs) (lw : Addr) (m : List (Addr × Flight)) (cc : Int) (i : Nat) (fs mi : List (Addr × Flight)) (l : List (Flight × Nat)) : Prop where
 at_ : At c H2 { k with fs := fs }
 w : H2 lw = some (.lst (mi.map refV))
 a1 : fs.map (·.1) = k.fs.map (·.1)
 f2 : fs.map (·.2) = putB k.fl l
 ids : (fs.map (·.2)).map (·.id) = k.fl.map (·.id)
 sub : ∀ x ∈ mi, x ∈ fs
 nd : (mi.map (·.1)).Nodup
 nf : (mi.map (·.2)).Nodup
 len : mi.length <= 60
 eq : l ++ giveB k.sl cc ((List.range k.ss.length).drop i) (mi.map (·.2)) = giveB k.sl cc (List.range k.ss.length) (m.map (·.2))
 out : ∀ b o, b ≠ lw -> ¬ k.foot b -> H b = some o -> H2 b = some o
 stay : ∀ b, H2 b = none -> H b = none
theorem nd_of_map {α β : Type} {f : α -> β} {l : List α} (h : (l.map f).Nodup) : l.Nodup := by
 rw [List.nodup_iff_pairwise_ne, List.pairwise_map] at h
 rw [List.nodup_iff_pairwise_ne]
 exact h.imp fun {a b} z e => z (by rw [e])
theorem drop_range {n i : Nat} (h : i < n) : (List.range n).drop i = i :: (List.range n).drop (i + 1) := by
 rw [List.drop_eq_getElem_cons (by rw [List.length_range]; exact h), List.getElem_range]
theorem giveB_skip {sl : List Slot} {cc : Int} {p : Nat} {r : List Nat} {l : List Flight} (h : (if oI (oOf sl p) = cc then l.find? (fun f => decide (f.ready <= tOf sl p)) else none) = none) : giveB sl cc (p :: r) l = giveB sl cc r l := by
 rw [giveB, h]
theorem giveB_take {sl : List Slot} {cc : Int} {p : Nat} {r : List Nat} {l : List Flight} {f : Flight} (h : (if oI (oOf sl p) = cc then l.find? (fun f => decide (f.ready <= tOf sl p)) else none) = some f) : giveB sl cc (p :: r) l = (f, p) :: giveB sl cc r (l.erase f) := by
 rw [giveB, h]
section
variable {c : Cs} {H H2 H3 H4 : Hp} {k : Hs} {lw : Addr} {m : List (Addr × Flight)} {cc : Int} {i : Nat} {fs mi : List (Addr × Flight)} {l : List (Flight × Nat)}
theorem BestI.skip (B : BestI c H H2 k lw m cc i fs mi l) (hi : i < k.ss.length) (h : (if oI (oOf k.sl i) = cc then (mi.map (·.2)).find? (fun f => decide (f.ready <= tOf k.sl i)) else none) = none) : BestI c H H2 k lw m cc (i + 1) fs mi l := by
 refine { B with eq := ?_ }
 have := B.eq
 rw [drop_range hi, giveB_skip h] at this
 exact this
theorem BestI.lw_ne (B : BestI c H H2 k lw m cc i fs mi l) {x : Addr × Flight} (hx : x ∈ fs) : x.1 ≠ lw := by
 obtain ⟨d, e⟩ := B.at_.hf x hx
 exact ne_of e B.w (fun z => nomatch z)
theorem BestI.lwfoot (B : BestI c H H2 k lw m cc i fs mi l) (hn : ¬ k.foot lw) : ¬ ({ k with fs := fs } : Hs).foot lw := fun z => hn (by
 rcases z with z | z | z | z | z
 ·exact .inl z
 ·exact .inr (.inl z)
 ·exact .inr (.inr (.inl z))
 ·exact .inr (.inr (.inr (.inl z)))
 ·have z : lw ∈ fs.map (·.1) := z
  rw [B.a1] at z
  exact .inr (.inr (.inr (.inr z))))
theorem BestI.give (B : BestI c H H2 k lw m cc i fs mi l) (hn : ¬ k.foot lw) (hi : i < k.ss.length) {x : Addr × Flight} {j : Nat} (hj : mi[j]? = some x) (h : (if oI (oOf k.sl i) = cc then (mi.map (·.2)).find? (fun f => decide (f.ready <= tOf k.sl i)) else none) = some x.2) (hids : (k.fl.map (·.id)).Nodup)
  (ha : IsFl c.F H3 x.1 { x.2 with place := some i }) (ho : ∀ b, b ≠ x.1 -> H3 b = H2 b) (hw4 : H4 lw = some (.lst ((mi.eraseIdx j).map refV))) (ho4 : ∀ b, b ≠ lw -> H4 b = H3 b) :
  ∃ fs', BestI c H H4 k lw m cc (i + 1) fs' (mi.eraseIdx j) (l ++ [(x.2, i)]) := by
 have hxm : x ∈ mi := List.mem_of_getElem? hj
 have hxf : x ∈ fs := B.sub x hxm
 obtain ⟨q, hq⟩ := List.getElem?_of_mem hxf
 have nlx := B.lw_ne hxf
 have A3 : At c H3 { k with fs := fs.set q (x.1, { x.2 with place := some i }) } := B.at_.setF (k := { k with fs := fs }) hq (f' := { x.2 with place := some i }) rfl ha ho
 have hmnd : mi.Nodup := nd_of_map B.nd
 have efst : (fs.set q (x.1, { x.2 with place := some i })).map (·.1) = fs.map (·.1) := map_fst_set (x := x.2) hq
 have nf4 : ¬ ({ k with fs := fs.set q (x.1, { x.2 with place := some i }) } : Hs).foot lw := fun z => B.lwfoot hn (foot_setF (k := { k with fs := fs }) hq _ z)
 have A4 : At c H4 { k with fs := fs.set q (x.1, { x.2 with place := some i }) } := A3.keep fun b o hb e => by
  rw [ho4 b fun z => nf4 (by rw [<- z]; exact hb)]; exact e
 have e2 : (fs.set q (x.1, { x.2 with place := some i })).map (·.2) = (fs.map (·.2)).map (SH.putF { x.2 with place := some i }) := by
  rw [List.map_set]
  exact set_putF (f := x.2) (by rw [B.ids]; exact hids) (by rw [List.getElem?_map, hq]; rfl) rfl
 refine ⟨fs.set q (x.1, { x.2 with place := some i }), A4, hw4, efst.trans B.a1, ?_, ?_, fun y hy => ?_, ?_, ?_, ?_, ?_, fun b o hb hf e => ?_, fun b hb => ?_⟩
 ·rw [e2, B.f2]
  unfold putB
  rw [List.foldl_append]
  rfl
 ·rw [e2, List.map_map, <- B.ids]
  congr 1
  exact funext fun x => putF_id
 ·obtain ⟨h1, h2⟩ := mem_eraseIdx_ne hmnd hj hy
  have hyf := B.sub y h1
  obtain ⟨u, hu⟩ := List.getElem?_of_mem hyf
  refine List.mem_of_getElem? (i := u) ?_
  rw [List.getElem?_set_ne]
  ·exact hu
  ·intro z
   subst z
   rw [hq] at hu
   exact h2 (Option.some.inj hu).symm
 ·exact B.nd.sublist ((List.eraseIdx_sublist mi j).map _)
 ·exact B.nf.sublist ((List.eraseIdx_sublist mi j).map _)
 ·have := L2.len_erase mi j
  have := B.len
  omega
 ·have := B.eq
  rw [drop_range hi, giveB_take h, erase_ix B.nf (j := j) (by rw [List.getElem?_map, hj]; rfl), <- erase_map] at this
  rw [List.append_assoc]
  exact this
 ·have n1 : b ≠ x.1 := fun z => hf (by
   have : x.1 ∈ k.fs.map (·.1) := by rw [<- B.a1]; exact List.mem_map_of_mem hxf
   rw [z]; exact .inr (.inr (.inr (.inr this))))
  rw [ho4 b hb, ho b n1]
  exact B.out b o hb hf e
 ·by_cases z : b = lw
  ·rw [z, hw4] at hb; cases hb
  ·rw [ho4 b z] at hb
   by_cases z2 : b = x.1
   ·obtain ⟨o, e⟩ := ha.some
    rw [z2, e] at hb; cases hb
   ·rw [ho b z2] at hb
    exact B.stay b hb
end
section
variable {P : Program} {w : World} {K : PySem.W.Frag} {mg : Str -> Option Value} {base : Heap} {c : Cs}
theorem sc_best : FSc ["house", "carrier", "before", "waiting", "place", "slot", "flight"] ["house", "carrier"] (dSc s_best) := ⟨rfl, rfl, rfl, by decide +kernel, rfl, by decide +kernel, by decide +kernel⟩
def sp_best (c : Cs) : Sp := fun vs H Q _ => ∃ (k : Hs) (s : State) (cc : Int), vs = [.ref k.h, .int cc] /\ Sta c H k s /\ 0 <= cc /\ Ans c H k (Vbahas.step s (.best cc)) Q
theorem ok_best (T : Txt K mg c) (EC : EqCls K c.F) (D : DefAt K mg "best" s_best ["house", "carrier"]) (O_slot_at : Ok P w K mg base 1 "slot_at" ["house", "place"] (sp_slot_at c)) (O_all_places : Ok P w K mg base 1 "all_places" ["house"] (sp_all_places c))
  (O_flights_of : Ok P w K mg base 2 "flights_of" ["house", "carrier"] (sp_flights_of c)) (O_carrier_cost : Ok P w K mg base 3 "carrier_cost" ["house", "carrier"] (sp_carrier_cost c))
  (O_best_order : Ok P w K mg base 1 "best_order" ["flight"] (sp_best_order c)) (O_first_that_may : Ok P w K mg base 2 "first_that_may" ["flights", "slot"] (sp_first_that_may c)) : Ok P w K mg base 4 "best" ["house", "carrier"] (sp_best c) := by
 refine mkOk D sc_best (fun vs H Q E h => ?_) fun f cdv A outer s H vs Q E hr h => ?_
 ·obtain ⟨k, s, cc, rfl, _⟩ := h; rfl
 ·obtain ⟨k, s, cc, rfl, hS, h0, q⟩ := h
  have nd := sc_best.nd
  have hu := hu_of hr
  have hA := hS.at_
  obtain ⟨fo, fdo, Fo, hmo, hko, hbo⟩ := O_best_order.ex
  refine ⟨_, (bC (ps_if (pt_not (pt_val (pf_given_out T (pv 0)))) (bO (pRt (pe_lst (aC (gIn T.c_NOT_GIVEN_OUT rfl) aN)))) bN)
   (bC (ps_set (i := 2) nd rfl (by first | exact Or.inl rfl | exact Or.inr rfl) (pe_fn O_carrier_cost hr rfl (aC (pv 0) (aC (pv 1) aN))))
   (bC (ps_set (i := 3) nd rfl (by first | exact Or.inl rfl | exact Or.inr rfl) (pe_callBK (cr_sortK rfl Fo hr hbo) rfl T.b_sorted (by decide +kernel) (aC (pe_fn O_flights_of hr rfl (aC (pv 0) (aC (pv 1) aN))) aN) (pk_cons (pe_gref hmo rfl) pk_nil)))
   (bC (ps_for PassesOwn.never rfl (pi_list (pe_fn O_all_places hr rfl (aC (pv 0) aN))) (pg_name (i := 4) nd rfl (Or.inl rfl)) (bC (ps_set (i := 5) nd rfl (by first | exact Or.inl rfl | exact Or.inr rfl) (pe_fn O_slot_at hr rfl (aC (pv 0) (aC (pv 4) aN))))
   (bC (ps_set (i := 6) nd rfl (by first | exact Or.inl rfl | exact Or.inr rfl) (pe_ifExp (tCm op_eq (pf_owner T (pv 5)) (pv 1) (nMk _)) (pe_fn O_first_that_may hr rfl (aC (pv 3) (aC (pv 5) aN))) pe_non))
   (bO (ps_if (pt_cmp (pc_notN (pv 6))) (bC (sf_place T (pv 6) (pv 4) rfl)
   (bO (ps_expr (pe_bm PySem.F.plainAttrs_list PySem.F.slot_list_remove PySem.F.type_list_remove (mt_removeI EC (hr.mono (Nat.zero_le _))) (pv 3) (aC (pv 6) aN))))) bN)))))
   (bO (pRt (pe_lst (aC pe_int (aC (pv 2) (aC (pe_fn O_carrier_cost hr rfl (aC (pv 0) (aC (pv 1) aN))) aN)))))))))), ?_⟩
  refine ⟨_, rfl, k.h, (k.la, k.da, k.g), rfl, hA.hh, _, rfl, iteN (fun e1 => ?_) fun e1 => ?_⟩
  ·have e : Vbahas.step s (.best cc) = (s, [-3]) := by
    simp only [Vbahas.step]
    rw [if_pos (by rw [hS.rel.gv]; exact e1)]
   rw [e] at q
   exact ⟨zl1, (q.ro hS rfl (Same.refl H)).of (Same.refl H)⟩
  have e1 : k.g = true := e1
  have e : Vbahas.step s (.best cc) = (Vbahas.best s cc, [0, Vbahas.cost s cc, Vbahas.cost (Vbahas.best s cc) cc]) := by
   simp only [Vbahas.step]
   rw [if_neg (by rw [hS.rel.gv, e1]; decide)]
  rw [e] at q
  have R1 : SH.Rel k.sl k.fl true s := by have := hS.rel; rw [e1] at this; exact this
  refine ⟨_, rfl, _, rfl, k, s, cc, rfl, hS, fun H1 s1 => ?_⟩
  have hS1 := hS.same s1
  refine ⟨_, rfl, _, rfl, k, s, cc, rfl, hS1, fun lf H2 hlf s2 ef => ?_⟩
  have hS2 := hS1.same s2
  have hsub : ∀ x ∈ k.livC cc, x ∈ k.fs := fun x hx => (List.mem_filter.mp (List.mem_filter.mp hx).1).1
  have hllen : (k.livC cc).length <= 60 := by
   have h1 : (k.livC cc).length <= k.liv.length := List.length_filter_le ..
   have := liv_len k
   have := hS.nfl
   omega
  refine ⟨lf, (k.livC cc).map refV, keyV k.fs wkey, rfl, rfl, .inl (SqL.of ef), by rw [List.length_map]; omega, fun x _ => keyV_ne (fun f => by simp [wkey]) x, fun x hx H3 s3 => ?_, fun ys' lw H3 hp hs s3 ew hlw => ?_⟩
  ·obtain ⟨y, hy, rfl⟩ := List.mem_map.mp hx
   refine ⟨y.1, y.2, rfl, (hS2.same s3).at_.hf y (hsub y hy), fun t ht => ⟨Same.upd ht, t, rfl, ?_⟩⟩
   rw [uS, keyV_mem hA.nf wkey (hsub y hy)]
  obtain ⟨m, mp, rfl⟩ := perm_lift hp (k.livC cc) rfl
  have hmsub : ∀ x ∈ m, x ∈ k.fs := fun x hx => hsub x (mp.mem_iff.mp hx)
  have hms := pw_keyV hA.nf wkey hmsub hs
  have hsm : Same H H3 := (s1.trans s2).trans s3
  have hS3 := hS.same hsm
  have mlen : m.length <= 60 := by rw [mp.length_eq]; exact hllen
  have hfsnd : k.fs.Nodup := nd_of_map hA.nf
  have mnd : (m.map (·.1)).Nodup := by
   refine (mp.map _).nodup_iff.mpr ?_
   exact hA.nf.sublist (((List.filter_sublist).trans (List.filter_sublist)).map _)
  have flnd : k.fl.Nodup := nd_of_map hS.rel.ids
  have mfn : (m.map (·.2)).Nodup := by
   refine (mp.map _).nodup_iff.mpr ?_
   exact flnd.sublist (((List.filter_sublist).trans (List.filter_sublist)).map _)
  have mP : (m.map (·.2)).Perm ((k.fl.filter fun f => !f.gone).filter fun f => decide (f.carrier = cc)) := by
   refine (mp.map _).trans (List.Perm.of_eq ?_)
   unfold Hs.livC Hs.liv Hs.fl
   rw [List.filter_map, List.filter_map]
   rfl
  have RB := R1.bested h0 mP hms
  have nlw : ¬ k.foot lw := foot_none hS2 hlw
  refine ⟨_, rfl, k, rfl, hS3.at_, hS3.nsl, fun lp H4 hlp s4 ep => ⟨lp, rfl, ⟨_, SqL.of ep⟩, ?_⟩⟩
  have hS4 := hS3.same s4
  have ew4 := s4 _ _ ew
  have nlp : ¬ k.foot lp := foot_none hS3 hlp
  have npw : lp ≠ lw := Ne.symm (nN ew hlp)
  refine for_list (K := K) (a := lp) (xs := (List.range k.ss.length).map plV) (fun i σ H5 => ∃ v4 v5 v6 fs mi l, σ = [some (.ref k.h), some (.int cc), some (.int (costL k.sl k.fl cc)), some (.ref lw), v4, v5, v6] /\ BestI c H4 H5 k lw m cc i fs mi l) ?_ ?_ ?_ ?_
  ·exact ⟨none, none, none, k.fs, m, [], rfl, hS4.at_, ew4, rfl, rfl, rfl, hmsub, mnd, mfn, mlen, rfl, fun b o _ _ e => e, fun b h => h⟩
  ·rintro i σ H5 _ ⟨v4, v5, v6, fs, mi, l, _, B⟩
   exact SqL.of (B.out lp _ npw nlp ep)
  ·rintro i v σ H5 hi ⟨v4, v5, v6, fs, mi, l, rfl, B⟩
   rw [List.getElem?_map] at hi
   obtain ⟨p, hp', rfl⟩ := Option.map_eq_some_iff.mp hi
   obtain ⟨hil, hpi⟩ := List.getElem?_eq_some_iff.mp hp'
   rw [List.getElem_range] at hpi
   subst hpi
   rw [List.length_range] at hil
   obtain ⟨a, y, hay⟩ := Hs.get hil
   have tY : tOf k.sl i = y.time := Hs.tOf_ss hay
   have oY : oOf k.sl i = y.owner := Hs.oOf_ss hay
   have hsl := B.at_.slot hay
   refine ⟨_, rfl, _, rfl, { k with fs := fs }, i, a, y, rfl, B.at_, hay, ?_⟩
   refine ⟨_, rfl, a, y, rfl, hsl, _, rfl, rfl, _, rfl, iteI (fun eo => ?_) fun eo => ?_⟩
   ·have efind : ((mi.map (·.2)).find? fun f => decide (f.ready <= tOf k.sl i)) = (mi.find? fun x => decide (x.2.ready <= y.time)).map (·.2) := by
     rw [List.find?_map, tY]; rfl
    refine ⟨_, rfl, _, rfl, lw, a, mi, y, rfl, B.w, fun x hx => B.at_.hf x (B.sub x hx), hsl, ?_⟩
    cases hfm : mi.find? fun x => decide (x.2.ready <= y.time) with
    | none =>
     refine ⟨_, rfl, _, rfl, ?_⟩
     refine ⟨_, _, _, fs, mi, l, rfl, B.skip hil ?_⟩
     rw [oY, if_pos eo, efind, hfm]; rfl
    | some x =>
     have hxm : x ∈ mi := List.mem_of_find?_eq_some hfm
     obtain ⟨j, hj⟩ := List.getElem?_of_mem hxm
     have hxf : IsFl c.F H5 x.1 x.2 := B.at_.hf x (B.sub x hxm)
     have nlx := B.lw_ne (B.sub x hxm)
     refine ⟨_, rfl, _, rfl, ?_⟩
     refine ⟨_, rfl, _, rfl, x.1, x.2, { x.2 with place := some i }, rfl, hxf, rfl, fun H6 ha6 ho6 => ?_⟩
     have ew6 : H6 lw = some (.lst (mi.map refV)) := by rw [ho6 _ (Ne.symm nlx)]; exact B.w
     refine ⟨_, rfl, .inl ⟨rfl, _, SqL.of ew6⟩, _, rfl, lw, mi.map refV, x.1, j, rfl, rfl, ew6, fun v hv => ?_, by rw [List.getElem?_map, hj]; rfl, fun u huj z => ?_, ?_⟩
     ·obtain ⟨z, hz, rfl⟩ := List.mem_map.mp hv
      by_cases e : z.1 = x.1
      ·obtain ⟨d, ea⟩ := ha6
       exact ⟨z.1, d, _, rfl, by rw [e]; exact ea⟩
      ·obtain ⟨d, ea⟩ := B.at_.hf z (B.sub z hz)
       exact ⟨z.1, d, _, rfl, by rw [ho6 _ e]; exact ea⟩
     ·rw [List.getElem?_map] at z
      obtain ⟨zz, hz, ez⟩ := Option.map_eq_some_iff.mp z
      exact fst_ne B.nd hz hj (by omega) (V.ref.inj ez)
     ·obtain ⟨fs', B'⟩ := B.give nlw hil hj (by rw [oY, if_pos eo, efind, hfm]; rfl) hS.rel.ids ha6 ho6 (H4 := upd H6 lw (.lst ((mi.map refV).eraseIdx j))) (by rw [uS, erase_map]) fun b hb => uN hb
      exact ⟨_, _, _, fs', _, _, rfl, B'⟩
   ·refine ⟨_, rfl, _, rfl, ?_⟩
    refine ⟨_, _, _, fs, mi, l, rfl, B.skip hil ?_⟩
    rw [oY, if_neg eo]
  ·rintro σ H5 ⟨v4, v5, v6, fs, mi, l, rfl, B⟩
   have hl : l = giveB k.sl cc (List.range k.ss.length) (m.map (·.2)) := by
    have := B.eq
    rw [List.length_map, List.drop_length, giveB, List.append_nil] at this
    exact this
   have S5 : Sta c H5 { k with fs := fs } (Vbahas.best s cc) := by
    refine ⟨B.at_, ?_⟩
    show SH.Rel k.sl (fs.map (·.2)) k.g _
    rw [B.f2, hl, e1]
    rw [Hs.sl_len] at RB
    exact RB
   have F5 : Fra H H5 k { k with fs := fs } := by
    refine ⟨rfl, fun b hb => hsm.free (s4.free (B.stay b hb)), fun b o e hn => ?_, fun b hb => ?_⟩
    ·have e3 := hsm _ _ e
     exact B.out b o (fun z => by rw [z] at e; have := (s1.trans s2) _ _ e; rw [hlw] at this; cases this) hn (s4 _ _ e3)
    ·rcases hb with z | z | z | z | z
     ·exact .inl (.inl z)
     ·exact .inl (.inr (.inl z))
     ·exact .inl (.inr (.inr (.inl z)))
     ·exact .inl (.inr (.inr (.inr (.inl z))))
     ·have z : b ∈ fs.map (·.1) := z
      rw [B.a1] at z
      exact .inl (.inr (.inr (.inr (.inr z))))
   refine ⟨_, rfl, _, rfl, _, rfl, { k with fs := fs }, _, cc, rfl, S5, fun H6 s6 => ⟨zl3, ?_⟩⟩
   have c1 : Vbahas.cost s cc = costL k.sl k.fl cc := hS.rel.cost _
   have c2 : Vbahas.cost (Vbahas.best s cc) cc = costL ({ k with fs := fs } : Hs).sl ({ k with fs := fs } : Hs).fl cc := S5.rel.cost _
   rw [c1, c2] at q
   exact (q.fin S5 F5).of s6
end
end SHP
end
section
namespace SHP
open PySem PySem.Spec PyProof.Rows L2 SH
open Vbahas (Slot Flight State)
theorem giveF_snoc (fl : List Flight) (l : List (Flight × Nat)) (y : Flight × Nat) : giveF fl (l ++ [y]) = (giveF fl l).map fun f => if f.id = y.1.id then { f with place := if f.gone = true then none else some y.2 } else f := by
 unfold giveF
 rw [List.foldl_append]
 rfl
theorem giveS_snoc (sl : List Slot) (l : List (Flight × Nat)) (y : Flight × Nat) : giveS sl (l ++ [y]) = ownAt (giveS sl l) y.2 (some y.1.carrier) := by
 unfold giveS
 rw [List.foldl_append]
 rfl
theorem giveF_mem : ∀ (l : List (Flight × Nat)) {fl : List Flight} {f : Flight}, f ∈ giveF fl l -> ∃ g ∈ fl, g.id = f.id /\ g.carrier = f.carrier /\ g.gone = f.gone
 | [], fl, f, h => ⟨f, h, rfl, rfl, rfl⟩
 | y :: l, fl, f, h => by
  have h : f ∈ giveF (fl.map fun f => if f.id = y.1.id then { f with place := if f.gone = true then none else some y.2 } else f) l := h
  obtain ⟨g, hg, h1, h2, h3⟩ := giveF_mem l h
  obtain ⟨g', hg', rfl⟩ := List.mem_map.mp hg
  refine ⟨g', hg', ?_⟩
  by_cases e : g'.id = y.1.id
  ·rw [if_pos e] at h1 h2 h3; exact ⟨h1, h2, h3⟩
  ·rw [if_neg e] at h1 h2 h3; exact ⟨h1, h2, h3⟩
theorem giveF_ids : ∀ (l : List (Flight × Nat)) (fl : List Flight), (giveF fl l).map (·.id) = fl.map (·.id)
 | [], fl => rfl
 | y :: l, fl => by
  show (giveF (fl.map fun f => if f.id = y.1.id then { f with place := if f.gone = true then none else some y.2 } else f) l).map (·.id) = _
  rw [giveF_ids l, List.map_map]
  apply List.map_congr_left
  intro f _
  show (if f.id = y.1.id then { f with place := if f.gone = true then none else some y.2 } else f).id = f.id
  split <;> rfl
theorem set_giveF {l : List Flight} (hn : (l.map (·.id)).Nodup) {j : Nat} {f : Flight} {i : Int} {p : Nat} (h : l[j]? = some f) (hi : f.id = i) :
  l.set j { f with place := if f.gone = true then none else some p } = l.map fun g => if g.id = i then { g with place := if g.gone = true then none else some p } else g := by
 rw [set_putF (f := f) (f' := { f with place := if f.gone = true then none else some p }) hn h rfl]
 apply List.map_congr_left
 intro g hg
 have hf : f ∈ l := List.mem_of_getElem? h
 by_cases e : g.id = i
 ·obtain ⟨q, hq⟩ := List.getElem?_of_mem hg
  have : g = f := by
   have z : q = j := nd_ix hn (x := i) (by rw [List.getElem?_map, hq]; show some g.id = _; rw [e]) (by rw [List.getElem?_map, h]; show some f.id = _; rw [hi])
   subst z
   rw [h] at hq
   exact (Option.some.inj hq).symm
  subst this
  rw [if_pos e]
  exact if_pos rfl
 ·rw [if_neg e]
  exact if_neg (by show ¬ g.id = f.id; rw [hi]; exact e)
section
variable {P : Program} {w : World} {K : PySem.W.Frag} {mg : Str -> Option Value} {base : Heap} {c : Cs}
theorem sc_ration_order : FSc ["flight"] ["flight"] (dSc s_ration_order) := ⟨rfl, rfl, rfl, by decide +kernel, rfl, by decide +kernel, by decide +kernel⟩
def sp_ration_order (c : Cs) : Sp := fun vs H Q _ => ∃ (a : Addr) (f : Flight), vs = [.ref a] /\ IsFl c.F H a f /\ ∀ t, H t = none -> Q (.ref t) (upd H t (.tup ((Vbahas.rank f).map V.int)))
theorem ok_ration_order (T : Txt K mg c) (D : DefAt K mg "ration_order" s_ration_order ["flight"]) : Ok P w K mg base 1 "ration_order" ["flight"] (sp_ration_order c) := by
 refine mkOk D sc_ration_order (fun vs H Q E h => ?_) fun f cdv A outer s H vs Q E hr h => ?_
 ·obtain ⟨a, f, rfl, _⟩ := h; rfl
 ·obtain ⟨a, f, rfl, ha, q⟩ := h
  refine ⟨_, (bO (pRt (pe_tup (aC (pe_ifExp (pt_val (pf_exempt T (pv 0))) pe_int pe_int) (aC (pf_planned T (pv 0)) (aC (pf_number T (pv 0)) aN)))))), ?_⟩
  have fin : ∀ b : Bool, f.exempt = b -> ∀ t, H t = none -> Q (.ref t) (upd H t (.tup [V.int (if b = true then 0 else 1), .int f.sched, .int f.id])) := fun b hb t ht => by
   have := q t ht
   unfold Vbahas.rank at this
   rw [hb] at this
   exact this
  refine ⟨_, rfl, a, f, rfl, ha, _, rfl, iteB (fun e => ?_) fun e => ?_⟩
  ·exact ⟨_, rfl, a, f, rfl, ha, _, rfl, a, f, rfl, ha, zl3, fun p hp => fin true e p hp⟩
  ·exact ⟨_, rfl, a, f, rfl, ha, _, rfl, a, f, rfl, ha, zl3, fun p hp => fin false e p hp⟩
theorem sc_give_out : FSc ["house", "flights", "places", "slot", "flight", "place"] ["house", "flights", "places"] (dSc s_give_out) := ⟨rfl, rfl, rfl, by decide +kernel, rfl, by decide +kernel, by decide +kernel⟩
structure Keep (H H2 : Hp) (k : Hs) : Prop where
 out : ∀ b o, ¬ k.foot b -> H b = some o -> H2 b = some o
 stay : ∀ b, H2 b = none -> H b = none
theorem Keep.refl (H : Hp) (k : Hs) : Keep H H k := ⟨fun _ _ _ e => e, fun _ h => h⟩
theorem Keep.put {H H2 H3 : Hp} {k : Hs} (s : Keep H H2 k) {a : Addr} (ha : k.foot a) (hs : ∃ o, H3 a = some o) (ho : ∀ b, b ≠ a -> H3 b = H2 b) : Keep H H3 k :=
 ⟨fun b o hn e => by rw [ho b fun z => hn (by rw [z]; exact ha)]; exact s.out b o hn e, fun b h => by
  by_cases z : b = a
  ·obtain ⟨o, e⟩ := hs
   rw [z, e] at h; cases h
  ·rw [ho b z] at h; exact s.stay b h⟩
structure Lke (k k2 : Hs) : Prop where
 h : k2.h = k.h
 la : k2.la = k.la
 da : k2.da = k.da
 ss : k2.ss.map (·.1) = k.ss.map (·.1)
 fs : k2.fs.map (·.1) = k.fs.map (·.1)
theorem Lke.foot {k k2 : Hs} (l : Lke k k2) {b : Addr} : k2.foot b ↔ k.foot b := by
 unfold Hs.foot
 rw [l.h, l.la, l.da, l.ss, l.fs]
theorem Lke.fra {H H2 : Hp} {k k2 : Hs} (l : Lke k k2) (s : Keep H H2 k) : Fra H H2 k k2 := ⟨l.h, s.stay, fun b o e hn => s.out b o hn e, fun b hb => .inl (l.foot.mp hb)⟩
theorem Lke.setS {k k2 : Hs} (l : Lke k k2) {p : Nat} {a : Addr} {x x' : Slot} (h : k2.ss[p]? = some (a, x)) : Lke k { k2 with ss := k2.ss.set p (a, x') } := { l with ss := (map_fst_set h).trans l.ss }
theorem Lke.setF {k k2 : Hs} (l : Lke k k2) {p : Nat} {a : Addr} {x x' : Flight} (h : k2.fs[p]? = some (a, x)) : Lke k { k2 with fs := k2.fs.set p (a, x') } := { l with fs := (map_fst_set h).trans l.fs }
theorem Keep.same {H H2 H3 : Hp} {k : Hs} (s : Keep H H2 k) (e : Same H2 H3) : Keep H H3 k := ⟨fun b o hn h => e _ _ (s.out b o hn h), fun b h => s.stay b (e.free h)⟩
def sp_give_out (c : Cs) : Sp := fun vs H Q _ => ∃ (k : Hs) (d e : Addr) (xs : List (Addr × Flight)) (l : List (Flight × Nat)), vs = [.ref k.h, .ref d, .ref e] /\ At c H k /\ (k.fl.map (·.id)).Nodup /\ H d = some (.lst (xs.map refV)) /\ H e = some (.lst ((l.map (·.2)).map plV)) /\ ¬ k.foot d /\ ¬ k.foot e /\ (∀ x ∈ xs, x ∈ k.fs) /\ l.map (·.1) = xs.map (·.2) /\ (∀ y ∈ l, y.2 < k.ss.length) /\
 ∀ H' k', At c H' k' -> k'.sl = giveS (bareL k.sl) l -> k'.fl = giveF k.fl l -> k'.g = true -> Lke k k' -> Keep H H' k -> Q .non H'
theorem ok_give_out (T : Txt K mg c) (D : DefAt K mg "give_out" s_give_out ["house", "flights", "places"]) (O_take_place : Ok P w K mg base 2 "take_place" ["house", "flight", "place"] (sp_take_place c)) : Ok P w K mg base 3 "give_out" ["house", "flights", "places"] (sp_give_out c) := by
 refine mkOk D sc_give_out (fun vs H Q E h => ?_) fun f cdv A outer s H vs Q E hr h => ?_
 ·obtain ⟨k, d, e, xs, l, rfl, _⟩ := h; rfl
 ·obtain ⟨k, d, e, xs, l, rfl, hA, hids, hd, he, hnd, hne, hxs, hxl, hl, q⟩ := h
  have nd := sc_give_out.nd
  refine ⟨_, (bC (ps_for PassesOwn.never rfl (pi_list (pf_slots T (pv 0))) (pg_name (i := 3) nd rfl (Or.inl rfl)) (bO (sf_owner T (pv 3) (gIn T.c_NOBODY rfl) rfl)))
   (bC (ps_for PassesOwn.never rfl (pi_zip rfl T.b_zip (aC (pv 1) (aC (pv 2) aN))) (pg_tup rfl (pgs_cons (pg_name (i := 4) nd rfl (Or.inl rfl)) (pgs_cons (pg_name (i := 5) nd rfl (Or.inl rfl)) pgs_nil))) (bC (ps_expr (pe_fn O_take_place hr rfl (aC (pv 0) (aC (pv 4) (aC (pv 5) aN)))))
   (bO (ps_if (pt_val (pf_cancelled T (pv 4))) (bO (sf_place T (pv 4) (gIn T.c_NO_PLACE rfl) rfl)) bN))))
   (bO (sf_given_out T (pv 0) pe_bl rfl)))), ?_⟩
  refine ⟨_, rfl, k.h, (k.la, k.da, k.g), rfl, hA.hh, k.la, rfl, ⟨_, SqL.of hA.hl⟩, for_list (K := K) (a := k.la) (xs := k.ss.map refV) (fun i σ H2 => ∃ v ss, σ = [some (.ref k.h), some (.ref d), some (.ref e), v, none, none] /\ At c H2 { k with ss := ss } /\ Lke k { k with ss := ss } /\ Keep H H2 k /\ ss.map (·.2) = bareL (k.sl.take i) ++ k.sl.drop i) ?_ ?_ ?_ ?_⟩
  ·exact ⟨none, k.ss, rfl, hA, ⟨rfl, rfl, rfl, rfl, rfl⟩, Keep.refl H k, rfl⟩
  ·rintro i σ H2 _ ⟨v, ss, _, A2, L2', _⟩
   have := A2.hl
   have e : (ss.map fun x => V.ref x.1) = k.ss.map refV := by
    have := congrArg (List.map V.ref) L2'.ss
    rw [List.map_map, List.map_map] at this
    exact this
   have h2 : H2 k.la = some (.lst (ss.map fun x => V.ref x.1)) := A2.hl
   rw [e] at h2
   exact SqL.of h2
  ·rintro i v σ H2 hi ⟨u, ss, rfl, A2, L2', K2, hss⟩
   rw [List.getElem?_map] at hi
   obtain ⟨x0, hx0, rfl⟩ := Option.map_eq_some_iff.mp hi
   have hil : i < k.ss.length := (List.getElem?_eq_some_iff.mp hx0).1
   have hsl : ss.length = k.ss.length := by
    have := congrArg List.length L2'.ss
    rw [List.length_map, List.length_map] at this
    exact this
   obtain ⟨b, x, hbx⟩ : ∃ b x, ss[i]? = some (b, x) := ⟨_, _, List.getElem?_eq_getElem (by omega)⟩
   have eb : b = x0.1 := by
    have h1 : (ss.map (·.1))[i]? = some b := by rw [List.getElem?_map, hbx]; rfl
    rw [show ss.map (·.1) = k.ss.map (·.1) from L2'.ss, List.getElem?_map, hx0] at h1
    exact (Option.some.inj h1).symm
   have hx2 : x = x0.2 := by
    have h1 : (ss.map (·.2))[i]? = some x := by rw [List.getElem?_map, hbx]; rfl
    have h2 : (bareL (k.sl.take i)).length = i := by unfold bareL; rw [List.length_map, List.length_take, Hs.sl_len]; omega
    rw [hss, List.getElem?_append_right (by rw [h2]; exact Nat.le_refl _), h2, Nat.sub_self, List.getElem?_drop] at h1
    unfold Hs.sl at h1
    rw [Nat.add_zero, List.getElem?_map, hx0] at h1
    exact (Option.some.inj h1).symm
   have hxs : IsSl c.S H2 b x := A2.slot hbx
   refine ⟨_, rfl, b, x, { x with owner := none }, (by show V.ref x0.1 = V.ref b; rw [eb]), hxs, rfl, fun H3 ha ho => ?_⟩
   refine ⟨_, ss.set i (b, { x with owner := none }), rfl, A2.setS (k := { k with ss := ss }) hbx ha ho, L2'.setS (k2 := { k with ss := ss }) hbx, K2.put (L2'.foot.mp (foot_slot (k := { k with ss := ss }) hbx)) (IsSl.some (x := { x with owner := none }) ha) ho, ?_⟩
   have et : k.sl.take (i + 1) = k.sl.take i ++ [x] := by
    unfold Hs.sl
    rw [List.take_add_one, List.getElem?_map, hx0, hx2]; rfl
   have ed : k.sl.drop i = x :: k.sl.drop (i + 1) := by
    rw [List.drop_eq_getElem_cons (by rw [Hs.sl_len]; exact hil)]
    congr 1
    have : k.sl[i]? = some x := by unfold Hs.sl; rw [List.getElem?_map, hx0, hx2]; rfl
    exact (List.getElem?_eq_some_iff.mp this).2
   have h2 : (bareL (k.sl.take i)).length = i := by unfold bareL; rw [List.length_map, List.length_take, Hs.sl_len]; omega
   rw [List.map_set, hss, ed, et]
   unfold bareL at h2 ⊢
   rw [List.set_append_right _ _ (by rw [h2]; exact Nat.le_refl _), h2, Nat.sub_self, List.map_append, List.append_assoc]
   rfl
  ·rintro σ H1 ⟨v, ss, rfl, A1, L1, K1, hss⟩
   have hss : ss.map (·.2) = bareL k.sl := by
    rw [hss, List.length_map, <- Hs.sl_len, List.take_length, List.drop_length, List.append_nil]
   have hd1 : H1 d = some (.lst (xs.map refV)) := K1.out d _ hnd hd
   have he1 : H1 e = some (.lst ((l.map (·.2)).map plV)) := K1.out e _ hne he
   have hlen : l.length = xs.length := by
    have := congrArg List.length hxl
    rw [List.length_map, List.length_map] at this
    exact this
   refine ⟨_, rfl, _, rfl, d, e, _, _, rfl, SqL.of hd1, SqL.of he1, for_zip (K := K) (a := d) (b := e) (xs := xs.map refV) (ys := (l.map (·.2)).map plV) (fun i σ H2 => ∃ v3 v4 v5 k2, σ = [some (.ref k.h), some (.ref d), some (.ref e), v3, v4, v5] /\ At c H2 k2 /\ Lke k k2 /\ k2.g = k.g /\ Keep H H2 k /\ k2.sl = giveS (bareL k.sl) (l.take i) /\ k2.fl = giveF k.fl (l.take i)) (by rw [List.length_map, List.length_map, List.length_map, hlen]) ?_ ?_ ?_ ?_⟩
   ·exact ⟨_, _, _, { k with ss := ss }, rfl, A1, L1, rfl, K1, hss, rfl⟩
   ·rintro i σ H2 _ ⟨v3, v4, v5, k2, _, _, _, _, K2, _⟩
    exact ⟨SqL.of (K2.out d _ hnd hd), SqL.of (K2.out e _ hne he)⟩
   ·rintro i vx vy σ H2 t hx hy ⟨v3, v4, v5, k2, rfl, A2, L2', g2, K2, hs2, hf2⟩ ht
    rw [List.getElem?_map] at hx hy
    obtain ⟨x, hx3, rfl⟩ := Option.map_eq_some_iff.mp hx
    clear hx
    have hx := hx3
    rw [List.getElem?_map] at hy
    obtain ⟨p, hy2, rfl⟩ := Option.map_eq_some_iff.mp hy
    obtain ⟨y, hy3, rfl⟩ := Option.map_eq_some_iff.mp hy2
    clear hy hy2
    have hy := hy3
    have hyp := hl y (List.mem_of_getElem? hy)
    have exy : y.1 = x.2 := by
     have h1 : (l.map (·.1))[i]? = some y.1 := by rw [List.getElem?_map, hy]; rfl
     rw [hxl, List.getElem?_map, hx] at h1
     exact (Option.some.inj h1).symm
    have sm3 : Same H2 (upd H2 t (.tup [refV x, plV y.2])) := Same.upd ht
    have A3 := A2.same sm3
    have K3 := K2.same sm3
    refine ⟨t, _, rfl, SqT.of uS, rfl, _, _, rfl, _, _, rfl, rfl, ?_⟩
    have hids2 : (k2.fl.map (·.id)).Nodup := by rw [hf2, giveF_ids]; exact hids
    obtain ⟨j, hj0⟩ := List.getElem?_of_mem (hxs x (List.mem_of_getElem? hx))
    have hsl2 : k2.ss.length = k.ss.length := by
     have := congrArg List.length L2'.ss
     rw [List.length_map, List.length_map] at this
     exact this
    have hfl2 : k2.fs.length = k.fs.length := by
     have := congrArg List.length L2'.fs
     rw [List.length_map, List.length_map] at this
     exact this
    obtain ⟨a, f, hj⟩ : ∃ a f, k2.fs[j]? = some (a, f) := ⟨_, _, List.getElem?_eq_getElem (by rw [hfl2]; exact (List.getElem?_eq_some_iff.mp hj0).1)⟩
    have ea : a = x.1 := by
     have h1 : (k2.fs.map (·.1))[j]? = some a := by rw [List.getElem?_map, hj]; rfl
     rw [L2'.fs, List.getElem?_map, hj0] at h1
     exact (Option.some.inj h1).symm
    have hi' : f.id = y.1.id := by
     have h1 : (k2.fl.map (·.id))[j]? = some f.id := by unfold Hs.fl; rw [List.getElem?_map, List.getElem?_map, hj]; rfl
     rw [hf2, giveF_ids] at h1
     unfold Hs.fl at h1
     rw [List.getElem?_map, List.getElem?_map, hj0] at h1
     rw [exy]
     exact (Option.some.inj h1).symm
    have hyf : y.1 ∈ k.fl := by rw [exy]; exact Hs.mem_fl (hxs x (List.mem_of_getElem? hx))
    have hfc : f.carrier = y.1.carrier := by
     have hfm : f ∈ giveF k.fl (l.take i) := by rw [<- hf2]; exact Hs.mem_fl (List.mem_of_getElem? hj)
     obtain ⟨g, hg, h1, h2, h3⟩ := giveF_mem _ hfm
     rw [hi'] at h1
     obtain ⟨q1, hq1⟩ := List.getElem?_of_mem hg
     obtain ⟨q2, hq2⟩ := List.getElem?_of_mem hyf
     have e : q1 = q2 := nd_ix hids (x := y.1.id) (by rw [List.getElem?_map, hq1]; show some g.id = _; rw [h1]) (by rw [List.getElem?_map, hq2]; rfl)
     subst e
     rw [hq1] at hq2
     rw [<- h2, Option.some.inj hq2]
    obtain ⟨b, z, hbz⟩ := Hs.get (k := k2) (p := y.2) (by rw [hsl2]; exact hyp)
    refine ⟨_, rfl, _, rfl, _, rfl, k2, a, b, f, z, y.2, (by rw [L2'.h, ea]; rfl), A3, A3.flight hj, hbz, .inl ⟨j, hj⟩, fun H4 ha4 hb4 ho4 => ?_⟩
    have nab : a ≠ b := fl_ne_sl (A3.flight hj) (A3.slot hbz)
    obtain ⟨A4, _⟩ := A3.putFO hj hbz (f' := { f with place := some y.2 }) (x' := { z with owner := some f.carrier }) rfl ha4 hb4 ho4
    have L4 : Lke k { k2 with fs := k2.fs.set j (a, { f with place := some y.2 }), ss := k2.ss.set y.2 (b, { z with owner := some f.carrier }) } := (L2'.setF (x' := { f with place := some y.2 }) hj).setS (k2 := { k2 with fs := k2.fs.set j (a, { f with place := some y.2 }) }) hbz
    have K4 : Keep H H4 k := ⟨fun u o hn eu => by rw [ho4 u (fun z' => hn (by rw [z']; exact L2'.foot.mp (foot_flight hj))) fun z' => hn (by rw [z']; exact L2'.foot.mp (foot_slot hbz))]; exact K3.out u o hn eu, fun u hu => by
     by_cases z1 : u = a
     ·obtain ⟨o, eo⟩ := ha4.some
      rw [z1, eo] at hu; cases hu
     ·by_cases z2 : u = b
      ·obtain ⟨o, eo⟩ := hb4.some
       rw [z2, eo] at hu; cases hu
      ·rw [ho4 u z1 z2] at hu; exact K3.stay u hu⟩
    have esl : (k2.ss.set y.2 (b, { z with owner := some f.carrier })).map (·.2) = giveS (bareL k.sl) (l.take (i + 1)) := by
     rw [List.take_add_one, hy]
     show _ = giveS (bareL k.sl) (l.take i ++ [y])
     rw [giveS_snoc, <- hs2, List.map_set, hfc]
     exact (ownAt_set _ _ _ (by show (k2.ss.map (·.2))[y.2]? = some z; rw [List.getElem?_map, hbz]; rfl)).symm
    have efl : (k2.fs.set j (a, { f with place := if f.gone = true then none else some y.2 })).map (·.2) = giveF k.fl (l.take (i + 1)) := by
     rw [List.take_add_one, hy]
     show _ = giveF k.fl (l.take i ++ [y])
     rw [giveF_snoc, <- hf2, List.map_set]
     exact set_giveF hids2 (by show (k2.fs.map (·.2))[j]? = some f; rw [List.getElem?_map, hj]; rfl) hi'
    have hj4 : (k2.fs.set j (a, ({ f with place := some y.2 } : Flight)))[j]? = some (a, { f with place := some y.2 }) := List.getElem?_set_self (List.getElem?_eq_some_iff.mp hj).1
    refine ⟨_, rfl, a, { f with place := some y.2 }, (by rw [ea]; rfl), ha4, _, rfl, iteB (fun eg => ?_) fun eg => ?_⟩
    ·have eg : f.gone = true := eg
     rw [if_pos eg] at efl
     refine ⟨_, rfl, a, { f with place := some y.2 }, { f with place := none }, (by rw [ea]; rfl), ha4, rfl, fun H5 ha5 ho5 => ?_⟩
     refine ⟨_, _, _, _, rfl, A4.setF (k := { k2 with fs := k2.fs.set j (a, { f with place := some y.2 }), ss := k2.ss.set y.2 (b, { z with owner := some f.carrier }) }) hj4 (f' := { f with place := none }) rfl ha5 ho5, L4.setF (k2 := { k2 with fs := k2.fs.set j (a, { f with place := some y.2 }), ss := k2.ss.set y.2 (b, { z with owner := some f.carrier }) }) hj4, g2, K4.put (L4.foot.mp (foot_flight (k := { k2 with fs := k2.fs.set j (a, { f with place := some y.2 }), ss := k2.ss.set y.2 (b, { z with owner := some f.carrier }) }) hj4)) (IsFl.some (f := { f with place := none }) ha5) ho5, esl, ?_⟩
     show ((k2.fs.set j (a, { f with place := some y.2 })).set j (a, { f with place := none })).map (·.2) = _
     rw [List.set_set]
     exact efl
    ·have eg : f.gone = false := eg
     rw [if_neg (by rw [eg]; decide)] at efl
     exact ⟨_, _, _, _, rfl, A4, L4, g2, K4, esl, efl⟩
   ·rintro σ H2 ⟨v3, v4, v5, k2, rfl, A2, L2', g2, K2, hs2, hf2⟩
    rw [List.length_map, <- hlen, List.take_length] at hs2 hf2
    refine ⟨_, rfl, k.h, (k2.la, k2.da, k2.g), (k2.la, k2.da, true), rfl, (by have := A2.hh; rw [L2'.h] at this; exact this), rfl, fun H4 ha4 ho4 => ?_⟩
    have A4 : At c H4 { k2 with g := true } := A2.setG (g := true) (by rw [L2'.h]; exact ha4) (by rw [L2'.h]; exact ho4)
    refine q H4 { k2 with g := true } A4 hs2 hf2 rfl ⟨L2'.h, L2'.la, L2'.da, L2'.ss, L2'.fs⟩ (K2.put (.inl rfl) (let ⟨d', e⟩ := ha4; ⟨_, e⟩) ho4)
end
end SHP
end
section
namespace SHP
open PySem PySem.Spec PyProof.Rows L2 SH
open Vbahas (Slot Flight State)
def pl1 (p : Nat) : Int := (p : Int) + 1
theorem pl_map (l : List Nat) : l.map plV = (l.map pl1).map V.int := by rw [List.map_map]; rfl
theorem pl_erase (p : Nat) : ∀ l : List Nat, (l.map pl1).erase (pl1 p) = (l.erase p).map pl1
 | [] => rfl
 | a :: r => by
  by_cases e : a = p
  ·subst e; simp
  ·have : pl1 a ≠ pl1 p := by unfold pl1; omega
   rw [List.map_cons, List.erase_cons_tail (by simpa using this), List.erase_cons_tail (by simpa using e), List.map_cons, pl_erase p r]
theorem turnL_none {sl : List Slot} {f : Flight} {r : List Flight} {free : List Nat} (h : (free.find? fun p => decide (f.ready <= tOf sl p)) = none) : turnL sl (f :: r) free = none := by
 unfold turnL
 rw [h]
theorem turnL_some {sl : List Slot} {f : Flight} {r : List Flight} {free : List Nat} {p : Nat} (h : (free.find? fun p => decide (f.ready <= tOf sl p)) = some p) : turnL sl (f :: r) free = (turnL sl r (free.erase p)).map fun l => (f, p) :: l := by
 rw [turnL, h]
 dsimp only
 cases turnL sl r (free.erase p) <;> rfl
section
variable {P : Program} {w : World} {K : PySem.W.Frag} {mg : Str -> Option Value} {base : Heap} {c : Cs}
theorem sc_sum_and_greatest : FSc ["late"] ["late"] (dSc s_sum_and_greatest) := ⟨rfl, rfl, rfl, by decide +kernel, rfl, by decide +kernel, by decide +kernel⟩
def sp_sum_and_greatest (c : Cs) : Sp := fun vs H Q _ => ∃ (a : Addr) (ns : List Int), vs = [.ref a] /\ H a = some (.lst (ns.map V.int)) /\ (∀ x ∈ ns, 0 <= x) /\ RetL H [.int ns.sum, .int (Vbahas.greatest ns)] Q
theorem ok_sum_and_greatest (T : Txt K mg c) (D : DefAt K mg "sum_and_greatest" s_sum_and_greatest ["late"]) : Ok P w K mg base 1 "sum_and_greatest" ["late"] (sp_sum_and_greatest c) := by
 refine mkOk D sc_sum_and_greatest (fun vs H Q E h => ?_) fun f cdv A outer s H vs Q E hr h => ?_
 ·obtain ⟨a, ns, rfl, _⟩ := h; rfl
 ·obtain ⟨a, ns, rfl, ha, h0, q⟩ := h
  refine ⟨_, (bO (pRt (pe_lst (aC (pe_callB (cr_sum rfl) (by rfl) T.b_sum (by decide +kernel) (aC (pv 0) aN)) (aC (pe_callBK (cr_maxD rfl) rfl T.b_max (by decide +kernel) (aC (pv 0) aN) (pk_cons pe_int pk_nil)) aN))))), ?_⟩
  refine ⟨_, rfl, a, ns, rfl, SqL.of ha, _, rfl, a, ns, _, rfl, rfl, ha, fun hnil => ⟨zl2, ?_⟩, fun mx hmx hle => ⟨zl2, ?_⟩⟩
  ·subst hnil
   exact q.of (Same.refl H)
  ·rw [greatest_of h0 hmx hle] at q
   exact q.of (Same.refl H)
theorem sc_told_lateness : FSc ["house", "flights", "flight"] ["house", "flights"] (dSc s_told_lateness) := ⟨rfl, rfl, rfl, by decide +kernel, rfl, by decide +kernel, by decide +kernel⟩
def lateL (k : Hs) (xs : List (Addr × Flight)) : List Int := xs.map fun x => late k.sl x.2
def sp_told_lateness (c : Cs) : Sp := fun vs H Q _ => ∃ (k : Hs) (s : State) (a : Addr) (xs : List (Addr × Flight)), vs = [.ref k.h, .ref a] /\ Sta c H k s /\ H a = some (.lst (xs.map refV)) /\ (∀ x ∈ xs, x ∈ k.fs) /\ xs.length <= 60 /\ RetL H [.int (lateL k xs).sum, .int (Vbahas.greatest (lateL k xs))] Q
theorem ok_told_lateness (T : Txt K mg c) (D : DefAt K mg "told_lateness" s_told_lateness ["house", "flights"]) (O_lateness : Ok P w K mg base 2 "lateness" ["house", "flight"] (sp_lateness c)) (O_sum_and_greatest : Ok P w K mg base 1 "sum_and_greatest" ["late"] (sp_sum_and_greatest c)) : Ok P w K mg base 3 "told_lateness" ["house", "flights"] (sp_told_lateness c) := by
 refine mkOk D sc_told_lateness (fun vs H Q E h => ?_) fun f cdv A outer s H vs Q E hr h => ?_
 ·obtain ⟨k, s, a, xs, rfl, _⟩ := h; rfl
 ·obtain ⟨k, s, a, xs, rfl, hS, ha, hxs, hlen, q⟩ := h
  have nd := sc_told_lateness.nd
  refine ⟨_, (bO (pRt (pe_fn O_sum_and_greatest hr rfl (aC (pe_lc (own := [("flight", 2)]) rfl nd (pi_list (pv 1)) (blkOk_by (by show blkC ["house", "flights", "flight"] (dSc s_told_lateness) _ _ = true; decide +kernel)) (fun _ _ _ _ _ => (pg_name (i := 2) nd rfl (Or.inl rfl))) (fun _ _ _ _ _ => pts_nil) (fun _ _ _ _ _ => (pe_fn O_lateness hr rfl (aC (pv 0) (aC (pv 2) aN))))) aN)))), ?_⟩
  refine ⟨_, rfl, a, rfl, ⟨_, SqL.of ha⟩, fun D hD => ?_⟩
  refine lc_pure (xs := xs) (enc := refV) (p := fun _ => true) (f := fun x => V.int (late k.sl x.2)) (fun H2 s2 => SqL.of (s2 _ _ ha)) hD (by omega) (fun x H8 N acc hx sm hacc hz hN => ?_) fun H8 sm hD8 => ?_
  ·refine ⟨rfl, ⟨_, rfl, _, rfl, k, s, x, rfl, hS.same sm, hxs x hx, acc, hacc, lt1000 hz, hN _ (fun b o e' => by rw [uN (nN e' hD)]; exact sm b o e') ?_⟩⟩
   rw [uS]; rfl
  ·refine ⟨D, lateL k xs, rfl, ?_, fun x hx => ?_, ?_⟩
   ·rw [hD8, List.filter_eq_self.mpr fun _ _ => rfl]
    unfold lateL
    rw [List.map_map]; rfl
   ·obtain ⟨y, hy, rfl⟩ := List.mem_map.mp hx
    exact hS.rel.late0 (Hs.mem_fl (hxs y hy))
   ·exact fun l' H' h1 h2 h3 => q l' H' (sm.free h1) (sm.trans h2) h3
theorem sc_places_in_turn : FSc ["house", "flights", "free", "places", "flight", "place"] ["house", "flights"] (dSc s_places_in_turn) := ⟨rfl, rfl, rfl, by decide +kernel, rfl, by decide +kernel, by decide +kernel⟩
def sp_places_in_turn (c : Cs) : Sp := fun vs H Q _ => ∃ (k : Hs) (a : Addr) (xs : List (Addr × Flight)), vs = [.ref k.h, .ref a] /\ At c H k /\ k.ss.length <= 120 /\ H a = some (.lst (xs.map refV)) /\ (∀ x ∈ xs, x ∈ k.fs) /\ xs.length <= 60 /\
 (turnL k.sl (xs.map (·.2)) (List.range k.sl.length) = none -> ∀ H', Same H H' -> Q .non H') /\ ∀ l, turnL k.sl (xs.map (·.2)) (List.range k.sl.length) = some l -> l.map (·.1) = xs.map (·.2) -> (∀ y ∈ l, y.2 < k.ss.length) -> RetL H ((l.map (·.2)).map plV) Q
theorem ok_places_in_turn (T : Txt K mg c) (D : DefAt K mg "places_in_turn" s_places_in_turn ["house", "flights"]) (O_all_places : Ok P w K mg base 1 "all_places" ["house"] (sp_all_places c)) (O_first_place_from : Ok P w K mg base 2 "first_place_from" ["house", "time", "places"] (sp_first_place_from c)) :
  Ok P w K mg base 3 "places_in_turn" ["house", "flights"] (sp_places_in_turn c) := by
 refine mkOk D sc_places_in_turn (fun vs H Q E h => ?_) fun f cdv A outer s H vs Q E hr h => ?_
 ·obtain ⟨k, a, xs, rfl, _⟩ := h; rfl
 ·obtain ⟨k, lw, m, rfl, hA, hnsl, ew, hmsub, mlen, qn, qs⟩ := h
  have nd := sc_places_in_turn.nd
  refine ⟨_, (bC (ps_set (i := 2) nd rfl (by first | exact Or.inl rfl | exact Or.inr rfl) (pe_fn O_all_places hr rfl (aC (pv 0) aN)))
   (bC (ps_set (i := 3) nd rfl (by first | exact Or.inl rfl | exact Or.inr rfl) (pe_lst aN))
   (bC (ps_for PassesOwn.never rfl (pi_list (pv 1)) (pg_name (i := 4) nd rfl (Or.inl rfl)) (bC (ps_set (i := 5) nd rfl (by first | exact Or.inl rfl | exact Or.inr rfl) (pe_fn O_first_place_from hr rfl (aC (pv 0) (aC (pf_ready T (pv 4)) (aC (pv 2) aN)))))
   (bC (ps_if (tCm op_eq (pv 5) (gIn T.c_NO_PLACE rfl) (nMk _)) (bO (pRt pe_non)) bN)
   (bC (ps_expr (pe_bm PySem.F.plainAttrs_list PySem.F.slot_list_remove PySem.F.type_list_remove mt_removeN (pv 2) (aC (pv 5) aN)))
   (bO (ps_expr (pe_bm PySem.F.plainAttrs_list PySem.F.slot_list_append PySem.F.type_list_append mt_append (pv 3) (aC (pv 5) aN))))))))
   (bO (pRt (pv 3)))))), ?_⟩
  refine ⟨_, rfl, k, rfl, hA, hnsl, fun lf H1 hlf s1 ef => ⟨Nat.zero_le _, fun d hd => ?_⟩⟩
  have sd : Same H1 (upd H1 d (.lst [])) := Same.upd hd
  have hsm : Same H (upd H1 d (.lst [])) := s1.trans sd
  have hA4 := hA.same hsm
  have ef4 : (upd H1 d (.lst [])) lf = some (.lst ((List.range k.ss.length).map plV)) := sd _ _ ef
  have nfd : lf ≠ d := nN ef hd
  have hof : H lf = none := hlf
  have hod : H d = none := s1.free hd
  have nlf : ¬ k.foot lf := fun z => by
   obtain ⟨o, e⟩ := hA.there z
   rw [hof] at e; cases e
  have ndd : ¬ k.foot d := fun z => by
   obtain ⟨o, e⟩ := hA.there z
   rw [hod] at e; cases e
  have nwf : lw ≠ lf := nN ew hof
  have nwd : lw ≠ d := nN ew hod
  have ew4 : (upd H1 d (.lst [])) lw = some (.lst (m.map refV)) := hsm _ _ ew
  have F5 : ∀ {H5 : Hp} {o1 o2 : HO}, (∀ b, b ≠ lf -> b ≠ d -> H5 b = (upd H1 d (.lst [])) b) -> Same H H5 := fun ho b o e => by
   rw [ho b (fun z => by rw [z, hof] at e; cases e) fun z => by rw [z, hod] at e; cases e]
   exact hsm _ _ e
  refine ⟨_, rfl, lw, rfl, ⟨_, SqL.of ew4⟩, for_list (K := K) (a := lw) (xs := m.map refV) (fun i σ H5 => ∃ v4 v5 fr l, σ = [some (.ref k.h), some (.ref lw), some (.ref lf), some (.ref d), v4, v5] /\ (∀ b, b ≠ lf -> b ≠ d -> H5 b = (upd H1 d (.lst [])) b) /\ H5 lf = some (.lst (fr.map plV)) /\ H5 d = some (.lst ((l.map (·.2)).map plV)) /\ (∀ p ∈ fr, p < k.ss.length) /\
   l.map (·.1) = (m.map (·.2)).take i /\ (∀ y ∈ l, y.2 < k.ss.length) /\ turnL k.sl (m.map (·.2)) (List.range k.sl.length) = (turnL k.sl ((m.map (·.2)).drop i) fr).map fun r => l ++ r) ?_ ?_ ?_ ?_⟩
  ·refine ⟨none, none, List.range k.ss.length, [], rfl, fun b _ _ => rfl, ef4, uS, fun p hp => List.mem_range.mp hp, rfl, fun y hy => (List.not_mem_nil hy).elim, ?_⟩
   rw [List.drop_zero, Hs.sl_len]
   cases turnL k.sl (m.map (·.2)) (List.range k.ss.length) <;> rfl
  ·rintro i σ H5 _ ⟨v4, v5, fr, l, _, ho, _⟩
   exact SqL.of (by rw [ho lw nwf nwd]; exact ew4)
  ·rintro i x σ H5 hi ⟨v4, v5, fr, l, rfl, ho, ef5, ed5, hfr, hl1, hl2, het⟩
   rw [List.getElem?_map] at hi
   obtain ⟨y, hy, rfl⟩ := Option.map_eq_some_iff.mp hi
   have hym := hmsub y (List.mem_of_getElem? hy)
   have hil : i < m.length := (List.getElem?_eq_some_iff.mp hy).1
   have A5 : At c H5 k := hA4.keep fun b o hb e => by rw [ho b (fun z => nlf (by rw [<- z]; exact hb)) fun z => ndd (by rw [<- z]; exact hb)]; exact e
   have edrop : (m.map (·.2)).drop i = y.2 :: (m.map (·.2)).drop (i + 1) := by
    rw [List.drop_eq_getElem_cons (by rw [List.length_map]; exact hil)]
    congr 1
    have : (m.map (·.2))[i]? = some y.2 := by rw [List.getElem?_map, hy]; rfl
    exact (List.getElem?_eq_some_iff.mp this).2
   have etake : (m.map (·.2)).take (i + 1) = (m.map (·.2)).take i ++ [y.2] := by rw [List.take_add_one, List.getElem?_map, hy]; rfl
   rw [edrop] at het
   refine ⟨_, rfl, _, rfl, y.1, y.2, rfl, A5.hf y hym, _, rfl, k, y.2.ready, lf, fr, rfl, A5, ef5, hfr, ?_⟩
   refine ⟨_, rfl, rfl, _, rfl, iteI (fun e1 => ?_) fun e1 => ?_⟩
   ·have hno := pI_zero.mp e1
    rw [turnL_none hno] at het
    exact qn het H5 (F5 (o1 := .lst []) (o2 := .lst []) ho)
   ·cases hq : fr.find? fun p => decide (y.2.ready <= tOf k.sl p) with
    | none => exact (e1 (by rw [hq]; rfl)).elim
    | some p =>
     have hpm : p ∈ fr := List.mem_of_find?_eq_some hq
     rw [turnL_some hq] at het
     refine ⟨_, rfl, .inl ⟨rfl, _, SqL.of ef5⟩, _, rfl, lf, fr.map pl1, pl1 p, rfl, rfl, (by rw [<- pl_map]; exact ef5), List.mem_map_of_mem hpm, ?_⟩
     have hllen : l.length <= 60 := by
      have := congrArg List.length hl1
      rw [List.length_map, List.length_take, List.length_map] at this
      omega
     have ed6 : (upd H5 lf (.lst (((fr.map pl1).erase (pl1 p)).map V.int))) d = some (.lst ((l.map (·.2)).map plV)) := by rw [uN (Ne.symm nfd)]; exact ed5
     refine ⟨_, rfl, .inl ⟨rfl, _, SqL.of ed6⟩, _, rfl, d, _, _, rfl, rfl, ed6, small1000 (by rw [List.length_map, List.length_map]; omega), ?_⟩
     refine ⟨_, _, fr.erase p, l ++ [(y.2, p)], rfl, fun b h1 h2 => by rw [uN h2, uN h1]; exact ho b h1 h2, ?_, ?_, fun z hz => hfr z (List.mem_of_mem_erase hz), ?_, fun z hz => ?_, ?_⟩
     ·rw [uN nfd, uS, pl_erase, <- pl_map]
     ·rw [uS, List.map_append, List.map_append]
      rfl
     ·rw [List.map_append, hl1, etake]; rfl
     ·rcases List.mem_append.mp hz with hz | hz
      ·exact hl2 z hz
      ·rw [List.mem_singleton.mp hz]; exact hfr p hpm
     ·rw [het, Option.map_map]
      congr 1
      funext r
      show l ++ ((y.2, p) :: r) = (l ++ [(y.2, p)]) ++ r
      rw [List.append_assoc]; rfl
  ·rintro σ H5 ⟨v4, v5, fr, l, rfl, ho, ef5, ed5, hfr, hl1, hl2, het⟩
   rw [List.length_map] at hl1 het
   have elen : (m.map (·.2)).length = m.length := List.length_map ..
   rw [<- elen, List.drop_length] at het
   rw [<- elen, List.take_length] at hl1
   have het : turnL k.sl (m.map (·.2)) (List.range k.sl.length) = some l := by
    rw [het]
    show some (l ++ []) = some l
    rw [List.append_nil]
   exact ⟨_, rfl, qs l het hl1 hl2 d H5 hod (F5 (o1 := .lst []) (o2 := .lst []) ho) ed5⟩
theorem liv_late (k : Hs) : lateL k k.liv = (k.fl.filter fun f => !f.gone).map (late k.sl) := by
 unfold lateL Hs.liv Hs.fl
 rw [List.filter_map, List.map_map]
 rfl
theorem sc_ration : FSc ["house", "flights", "places"] ["house"] (dSc s_ration) := ⟨rfl, rfl, rfl, by decide +kernel, rfl, by decide +kernel, by decide +kernel⟩
def sp_ration (c : Cs) : Sp := fun vs H Q _ => ∃ (k : Hs) (s : State), vs = [.ref k.h] /\ Sta c H k s /\ Ans c H k (Vbahas.step s .ration) Q
theorem ok_ration (T : Txt K mg c) (D : DefAt K mg "ration" s_ration ["house"]) (O_living_flights : Ok P w K mg base 1 "living_flights" ["house"] (sp_living_flights c))
  (O_places_in_turn : Ok P w K mg base 3 "places_in_turn" ["house", "flights"] (sp_places_in_turn c)) (O_told_lateness : Ok P w K mg base 3 "told_lateness" ["house", "flights"] (sp_told_lateness c))
  (O_ration_order : Ok P w K mg base 1 "ration_order" ["flight"] (sp_ration_order c)) (O_give_out : Ok P w K mg base 3 "give_out" ["house", "flights", "places"] (sp_give_out c)) : Ok P w K mg base 4 "ration" ["house"] (sp_ration c) := by
 refine mkOk D sc_ration (fun vs H Q E h => ?_) fun f cdv A outer s H vs Q E hr h => ?_
 ·obtain ⟨k, s, rfl, _⟩ := h; rfl
 ·obtain ⟨k, s, rfl, hS, q⟩ := h
  have nd := sc_ration.nd
  have hA := hS.at_
  obtain ⟨fo, fdo, Fo, hmo, hko, hbo⟩ := O_ration_order.ex
  refine ⟨_, (bC (ps_set (i := 1) nd rfl (by first | exact Or.inl rfl | exact Or.inr rfl) (pe_callBK (cr_sortK rfl Fo hr hbo) rfl T.b_sorted (by decide +kernel) (aC (pe_values (pf_flights T (pv 0))) aN) (pk_cons (pe_gref hmo rfl) pk_nil)))
   (bC (ps_set (i := 2) nd rfl (by first | exact Or.inl rfl | exact Or.inr rfl) (pe_fn O_places_in_turn hr rfl (aC (pv 0) (aC (pv 1) aN))))
   (bC (ps_if (pt_cmp (pc_isN (pv 2))) (bO (pRt (pe_lst (aC (gIn T.c_NO_SLOT_FOR_IT rfl) aN)))) bN)
   (bC (ps_expr (pe_fn O_give_out hr rfl (aC (pv 0) (aC (pv 1) (aC (pv 2) aN)))))
   (bO (pRt (pe_op op_cat (pe_lst (aC pe_int aN)) (pe_fn O_told_lateness hr rfl (aC (pv 0) (aC (pe_fn O_living_flights hr rfl (aC (pv 0) aN)) aN)))))))))), ?_⟩
  refine ⟨_, rfl, k.h, (k.la, k.da, k.g), rfl, hA.hh, k.da, _, rfl, hA.hd, fun v hv => ?_⟩
  have sv : Same H (upd H v (valsV v k.da)) := Same.upd hv
  have hS3 := hS.same sv
  have hA3 := hS3.at_
  refine ⟨v, k.fs.map refV, keyV k.fs Vbahas.rank, rfl, rfl, .inr ⟨k.da, _, uS, hA3.hd, by rw [List.map_map]; rfl⟩, by rw [List.length_map]; have := hS.nfl; omega, fun x _ => keyV_ne (fun f => by simp [Vbahas.rank]) x, fun x hx H4 s4 => ?_, fun ys' lw H4 hp hs s4 ew hlw => ?_⟩
  ·obtain ⟨y, hy, rfl⟩ := List.mem_map.mp hx
   refine ⟨y.1, y.2, rfl, (hS3.same s4).at_.hf y hy, fun t ht => ⟨Same.upd ht, t, rfl, ?_⟩⟩
   rw [uS, keyV_mem hA.nf Vbahas.rank hy]
  obtain ⟨m, mp, rfl⟩ := perm_lift hp k.fs rfl
  have hmsub : ∀ x ∈ m, x ∈ k.fs := fun x hx => mp.mem_iff.mp hx
  have hms := pw_keyV hA.nf Vbahas.rank hmsub hs
  have hsm : Same H H4 := sv.trans s4
  have hS4 := hS.same hsm
  have esort : m.map (·.2) = Vbahas.sortBy Vbahas.rank s.flights := hS.rel.ration_order (mp.map _) hms
  have eturn : turnL k.sl (m.map (·.2)) (List.range k.sl.length) = Vbahas.inTurn s (Vbahas.sortBy Vbahas.rank s.flights) [] := by rw [<- esort]; exact hS.rel.turns _
  have mlen : m.length <= 60 := by rw [mp.length_eq]; exact hS.nfl
  have nlw : ¬ k.foot lw := foot_none hS3 hlw
  refine ⟨_, rfl, _, rfl, k, lw, m, rfl, hS4.at_, hS.nsl, ew, hmsub, mlen, fun hno H5 s5 => ?_, fun l het hl1 hl2 => fun le H5 hle s5 ee => ?_⟩
  ·rw [eturn] at hno
   have e : Vbahas.step s .ration = (s, [-7]) := by
    simp only [Vbahas.step, Vbahas.ration]
    rw [hno]
   rw [e] at q
   exact ⟨_, rfl, _, rfl, zl1, (q.ro hS rfl (hsm.trans s5)).of (Same.refl H5)⟩
  ·refine ⟨_, rfl, _, rfl, ?_⟩
   rw [eturn] at het
   obtain ⟨t, ht, Rt⟩ := hS.rel.rationed het
   have e : Vbahas.step s .ration = (t, [0, Vbahas.sum ((Vbahas.live t).map (Vbahas.delayOf t)), Vbahas.greatest ((Vbahas.live t).map (Vbahas.delayOf t))]) := by
    simp only [Vbahas.step]
    rw [ht]
   rw [e] at q
   have hS5 := hS4.same s5
   have nle : ¬ k.foot le := foot_none hS4 hle
   refine ⟨_, rfl, _, rfl, _, rfl, k, lw, le, m, l, rfl, hS5.at_, hS.rel.ids, s5 _ _ ew, ee, nlw, nle, hmsub, hl1, hl2, fun H6 k6 A6 hs6 hf6 hg6 L6 K6 => ?_⟩
   have S6 : Sta c H6 k6 t := ⟨A6, by rw [hs6, hf6, hg6]; exact Rt⟩
   have F6 : Fra H H6 k k6 := (Fra.same k (hsm.trans s5)).trans (L6.fra K6)
   refine ⟨zl1, fun l1 hl1' => ?_⟩
   have S7 := S6.same (Same.upd (o := .lst [.int 0]) hl1')
   refine ⟨_, rfl, _, rfl, k6, (by rw [L6.h]; rfl), S7.at_, S7.nfl, fun lv H7 hlv s7 ev => ?_⟩
   refine ⟨k6, t, lv, k6.liv, (by rw [L6.h]; rfl), S7.same s7, ev, fun x hx => (List.mem_filter.mp hx).1, Nat.le_trans (liv_len k6) S6.nfl, fun l2 H8 hl2' s8 e2 => ?_⟩
   refine ⟨l1, l2, _, _, rfl, rfl, s8 _ _ (s7 _ _ uS), e2, (by show 1 + 2 <= sizeLine; decide), fun l3 hl3 => ?_⟩
   have esum := S6.rel.sumLate
   have egr := S6.rel.greatLate
   rw [esum, egr, <- liv_late] at q
   exact (q.fin S6 F6).of (((Same.upd hl1').trans s7).trans s8) l3 hl3
end
end SHP
end
section
namespace SHP
open PySem PySem.Spec PyProof.Rows L2 SH
open Vbahas (Slot Flight State)
def keyP (fs : List (Addr × Flight)) (v : V) : Int := (keyV fs (fun f => [pI f.place]) v).headD 0
theorem keyP_mem {fs : List (Addr × Flight)} (hn : (fs.map (·.1)).Nodup) {x : Addr × Flight} (hx : x ∈ fs) : keyP fs (refV x) = pI x.2.place := by
 unfold keyP
 rw [keyV_mem hn _ hx]
 rfl
section
variable {P : Program} {w : World} {K : PySem.W.Frag} {mg : Str -> Option Value} {base : Heap} {c : Cs}
theorem sc_place_of : FSc ["flight"] ["flight"] (dSc s_place_of) := ⟨rfl, rfl, rfl, by decide +kernel, rfl, by decide +kernel, by decide +kernel⟩
def sp_place_of (c : Cs) : Sp := fun vs H Q _ => ∃ (a : Addr) (f : Flight), vs = [.ref a] /\ IsFl c.F H a f /\ Q (.int (pI f.place)) H
theorem ok_place_of (T : Txt K mg c) (D : DefAt K mg "place_of" s_place_of ["flight"]) : Ok P w K mg base 1 "place_of" ["flight"] (sp_place_of c) := by
 refine mkOk D sc_place_of (fun vs H Q E h => ?_) fun f cdv A outer s H vs Q E hr h => ?_
 ·obtain ⟨a, f, rfl, _⟩ := h; rfl
 ·obtain ⟨a, f, rfl, ha, q⟩ := h
  exact ⟨_, (bO (pRt (pf_place T (pv 0)))), ⟨_, rfl, a, f, rfl, ha, q⟩⟩
theorem sc_comer : FSc ["house", "place", "slot", "comers", "own", "flight"] ["house", "place"] (dSc s_comer) := ⟨rfl, rfl, rfl, by decide +kernel, rfl, by decide +kernel, by decide +kernel⟩
def sp_comer (c : Cs) : Sp := fun vs H Q _ => ∃ (k : Hs) (s : State) (p : Nat), vs = [.ref k.h, .int ((p : Int) + 1)] /\ Sta c H k s /\ p < k.ss.length /\ (Vbahas.comer s p = none -> ∀ H', Same H H' -> Q .non H') /\
 ∀ x ∈ k.fs, Vbahas.comer s p = some x.2 -> ∀ H', Same H H' -> Q (.ref x.1) H'
def Hs.comers (k : Hs) (p : Nat) : List (Addr × Flight) := k.liv.filter fun x => decide ((p : Int) + 1 < pI x.2.place) && decide (x.2.ready <= tOf k.sl p)
theorem comers_fl (k : Hs) (p : Nat) : (k.comers p).map (·.2) = comersL k.sl k.fl p := by
 unfold Hs.comers Hs.liv comersL Hs.fl
 rw [List.filter_map, List.filter_map]
 rfl
theorem ok_comer (T : Txt K mg c) (D : DefAt K mg "comer" s_comer ["house", "place"]) (O_slot_at : Ok P w K mg base 1 "slot_at" ["house", "place"] (sp_slot_at c)) (O_may_have : Ok P w K mg base 1 "may_have" ["flight", "slot"] (sp_may_have c))
  (O_living_flights : Ok P w K mg base 1 "living_flights" ["house"] (sp_living_flights c)) (O_place_of : Ok P w K mg base 1 "place_of" ["flight"] (sp_place_of c)) : Ok P w K mg base 3 "comer" ["house", "place"] (sp_comer c) := by
 refine mkOk D sc_comer (fun vs H Q E h => ?_) fun f cdv A outer s H vs Q E hr h => ?_
 ·obtain ⟨k, s, p, rfl, _⟩ := h; rfl
 ·obtain ⟨k, s, p, rfl, hS, hp, q0, q1⟩ := h
  have nd := sc_comer.nd
  have hA := hS.at_
  obtain ⟨fo, fdo, Fo, hmo, hko, hbo⟩ := O_place_of.ex
  refine ⟨_, (bC (ps_set (i := 2) nd rfl (by first | exact Or.inl rfl | exact Or.inr rfl) (pe_fn O_slot_at hr rfl (aC (pv 0) (aC (pv 1) aN))))
   (bC (ps_setLc (i := 3) (own := [("flight", 5)]) rfl nd rfl rfl (sw_true rfl rfl rfl rfl) (pi_list (pe_fn O_living_flights hr rfl (aC (pv 0) aN))) (blkOk_by (by show blkC ["house", "place", "slot", "comers", "own", "flight"] (dSc s_comer) _ _ = true; decide +kernel)) (fun _ _ _ _ _ => (pg_name (i := 5) nd rfl (Or.inl rfl))) (fun _ _ _ _ _ => (pts_one (PW.pt (pw_and (tCm op_gt (pf_place T (pv 5)) (pv 1) (nMk _)) (pw_and1 (pt_val (pe_fn O_may_have hr rfl (aC (pv 5) (aC (pv 2) aN))))))))) (fun _ _ _ _ _ => (pv 5)))
   (bC (ps_setLc (i := 4) (own := [("flight", 5)]) rfl nd rfl rfl (sw_true rfl rfl rfl rfl) (pi_list (pv 3)) (blkOk_by (by show blkC ["house", "place", "slot", "comers", "own", "flight"] (dSc s_comer) _ _ = true; decide +kernel)) (fun _ _ _ _ _ => (pg_name (i := 5) nd rfl (Or.inl rfl))) (fun _ _ _ _ _ => (pts_one (tCm op_eq (pf_carrier T (pv 5)) (pf_owner T (pv 2)) (nMk _)))) (fun _ _ _ _ _ => (pv 5)))
   (bO (pRt (pe_callBK (cr_minK rfl Fo hr hbo) rfl T.b_min (by decide +kernel) (aC (pe_ifExp (pt_truth (pv 4) (by intro _; rfl)) (pv 4) (pv 3)) aN) (pk_cons (pe_gref hmo rfl) (pk_cons pe_non pk_nil)))))))), ?_⟩
  obtain ⟨b, y, hby⟩ := Hs.get hp
  have tY : tOf k.sl p = y.time := Hs.tOf_ss hby
  have oY : oOf k.sl p = y.owner := Hs.oOf_ss hby
  refine ⟨_, rfl, _, rfl, k, p, b, y, rfl, hA, hby, ?_⟩
  refine ⟨_, rfl, k, rfl, hA, hS.nfl, fun lv H1 hlv s1 ev => ⟨lv, rfl, ⟨_, SqL.of ev⟩, fun D hD => ?_⟩⟩
  refine lc_pure (xs := k.liv) (enc := refV) (p := fun x => decide ((p : Int) + 1 < pI x.2.place) && decide (x.2.ready <= tOf k.sl p)) (f := refV) (fun H2 s2 => SqL.of (s2 _ _ ev)) hD (by have := liv_len k; have := hS.nfl; omega) (fun x H2 N acc hx sm hacc hz hN => ?_) fun H2 sm hD2 => ?_
  ·have hx' : x ∈ k.fs := (List.mem_filter.mp hx).1
   have A2 := hA.same (s1.trans sm)
   refine ⟨rfl, _, rfl, x.1, x.2, rfl, A2.hf x hx', _, rfl, _, _, rfl, rfl, _, rfl, iteD (fun e1 => ?_) fun e1 => ?_⟩
   ·refine ⟨_, rfl, _, rfl, x.1, b, x.2, y, rfl, A2.hf x hx', A2.slot hby, _, rfl, iteD (fun e2 => ?_) fun e2 => ?_⟩
    ·refine ⟨_, rfl, acc, hacc, lt1000 hz, hN _ (fun b o e' => by rw [uN (nN e' hD)]; exact sm b o e') ?_⟩
     rw [uS, if_pos (by rw [tY, decide_eq_true (show (p : Int) + 1 < pI x.2.place from e1), decide_eq_true e2]; rfl)]
    ·exact hN _ sm (by rw [if_neg (by rw [tY, decide_eq_false e2, Bool.and_false]; exact Bool.false_ne_true)]; exact hacc)
   ·exact hN _ sm (by rw [if_neg (by rw [decide_eq_false (show ¬ (p : Int) + 1 < pI x.2.place from e1), Bool.false_and]; exact Bool.false_ne_true)]; exact hacc)
  ·have hD2 : H2 D = some (.lst ((k.comers p).map refV)) := hD2
   have clen : (k.comers p).length <= 60 := by
    have h1 : (k.comers p).length <= k.liv.length := List.length_filter_le ..
    have := liv_len k
    have := hS.nfl
    omega
   refine ⟨_, rfl, D, rfl, ⟨_, SqL.of hD2⟩, fun D' hD' => ?_⟩
   have s02 : Same H H2 := s1.trans sm
   refine lc_pure (xs := k.comers p) (enc := refV) (p := fun x => decide (x.2.carrier = oI (oOf k.sl p))) (f := refV) (fun H3 s3 => SqL.of (s3 _ _ hD2)) hD' (by omega) (fun x H3 N acc hx sm3 hacc hz hN => ?_) fun H3 sm3 hD3 => ?_
   ·have hx' : x ∈ k.fs := (List.mem_filter.mp (List.mem_filter.mp hx).1).1
    have A3 := hA.same (s02.trans sm3)
    refine ⟨rfl, _, rfl, x.1, x.2, rfl, A3.hf x hx', _, rfl, b, y, rfl, A3.slot hby, rfl, _, rfl, iteI (fun e1 => ?_) fun e1 => ?_⟩
    ·refine ⟨_, rfl, acc, hacc, lt1000 hz, hN _ (fun b o e' => by rw [uN (nN e' hD')]; exact sm3 b o e') ?_⟩
     rw [uS, if_pos (by rw [oY]; exact decide_eq_true e1)]
    ·exact hN _ sm3 (by rw [if_neg (by rw [oY, decide_eq_false e1]; exact Bool.false_ne_true)]; exact hacc)
   ·have s03 := s02.trans sm3
    have eD3 : H3 D = some (.lst ((k.comers p).map refV)) := sm3 _ _ hD2
    have hA3 := hA.same s03
    have ofl : ((k.comers p).filter fun x => decide (x.2.carrier = oI (oOf k.sl p))).map (·.2) = (comersL k.sl k.fl p).filter fun f => decide (f.carrier = oI (oOf k.sl p)) := by
     rw [<- comers_fl, List.filter_map]; rfl
    have hsub : ∀ x ∈ k.comers p, x ∈ k.fs := fun x hx => (List.mem_filter.mp (List.mem_filter.mp hx).1).1
    have key : ∀ (l : List (Addr × Flight)), (∀ x ∈ l, x ∈ k.fs) -> KeyInt (sp_place_of c) (keyP k.fs) (l.map refV) H3 := fun l hl x hx H4 s4 => by
     obtain ⟨z, hz, rfl⟩ := List.mem_map.mp hx
     refine ⟨z.1, z.2, rfl, (hA3.same s4).hf z (hl z hz), Same.refl H4, ?_⟩
     rw [keyP_mem hA.nf (hl z hz)]
    have hpl : p < k.sl.length := by rw [Hs.sl_len]; exact hp
    cases hown : (k.comers p).filter fun x => decide (x.2.carrier = oI (oOf k.sl p)) with
    | cons z zs =>
     have hosub : ∀ x ∈ (k.comers p).filter fun x => decide (x.2.carrier = oI (oOf k.sl p)), x ∈ k.fs := fun x hx => hsub x (List.mem_filter.mp hx).1
     rw [hown] at hD3 ofl hosub
     refine ⟨_, rfl, true, .inl ⟨_, SqL.of hD3, rfl⟩, ?_⟩
     refine ⟨_, rfl, D', (z :: zs).map refV, keyP k.fs, .non, rfl, rfl, hD3, key _ hosub, fun z => (nomatch z), fun mv H4 hm hle s4 => ?_⟩
     obtain ⟨x, hx, rfl⟩ := List.mem_map.mp hm
     refine q1 x (hosub x hx) ?_ H4 (s03.trans s4)
     refine hS.rel.comer_some hpl ?_
     rw [<- ofl]
     rw [if_neg (by simp)]
     refine ⟨List.mem_map_of_mem hx, fun a ha => ?_⟩
     obtain ⟨u, hu, rfl⟩ := List.mem_map.mp ha
     have := hle (refV u) (List.mem_map_of_mem hu)
     rw [keyP_mem hA.nf (hosub x hx), keyP_mem hA.nf (hosub u hu)] at this
     exact this
    | nil =>
     rw [hown] at hD3 ofl
     refine ⟨_, rfl, false, .inl ⟨_, SqL.of hD3, rfl⟩, ?_⟩
     refine ⟨_, rfl, D, (k.comers p).map refV, keyP k.fs, .non, rfl, rfl, eD3, key _ hsub, fun hn => ?_, fun mv H4 hm hle s4 => ?_⟩
     ·refine q0 (hS.rel.comer_none hpl ?_) H3 s03
      rw [<- comers_fl, List.map_eq_nil_iff.mp hn]; rfl
     ·obtain ⟨x, hx, rfl⟩ := List.mem_map.mp hm
      refine q1 x (hsub x hx) ?_ H4 (s03.trans s4)
      refine hS.rel.comer_some hpl ?_
      rw [<- ofl]
      rw [if_pos (by rfl), <- comers_fl]
      refine ⟨List.mem_map_of_mem hx, fun a ha => ?_⟩
      obtain ⟨u, hu, rfl⟩ := List.mem_map.mp ha
      have := hle (refV u) (List.mem_map_of_mem hu)
      rw [keyP_mem hA.nf (hsub x hx), keyP_mem hA.nf (hsub u hu)] at this
      exact this
theorem sc_pass_on : FSc ["house", "flight", "place", "slot", "left"] ["house", "flight", "place"] (dSc s_pass_on) := ⟨rfl, rfl, rfl, by decide +kernel, rfl, by decide +kernel, by decide +kernel⟩
def sp_pass_on (c : Cs) : Sp := fun vs H Q _ => ∃ (k : Hs) (p r j : Nat) (a b b2 : Addr) (f : Flight) (y y2 : Slot), vs = [.ref k.h, .ref a, .int ((p : Int) + 1)] /\ At c H k /\ k.fs[j]? = some (a, f) /\ f.place = some r /\ p ≠ r /\ k.ss[p]? = some (b, y) /\ k.ss[r]? = some (b2, y2) /\
 ∀ H', At c H' { k with ss := (k.ss.set r (b2, { y2 with owner := y.owner })).set p (b, { y with owner := some f.carrier }), fs := k.fs.set j (a, { f with place := some p }) } -> Keep H H' k -> Q .non H'
theorem ok_pass_on (T : Txt K mg c) (D : DefAt K mg "pass_on" s_pass_on ["house", "flight", "place"]) (O_slot_at : Ok P w K mg base 1 "slot_at" ["house", "place"] (sp_slot_at c)) (O_take_place : Ok P w K mg base 2 "take_place" ["house", "flight", "place"] (sp_take_place c)) : Ok P w K mg base 3 "pass_on" ["house", "flight", "place"] (sp_pass_on c) := by
 refine mkOk D sc_pass_on (fun vs H Q E h => ?_) fun f cdv A outer s H vs Q E hr h => ?_
 ·obtain ⟨k, p, r, j, a, b, b2, f, y, y2, rfl, _⟩ := h; rfl
 ·obtain ⟨k, p, r, j, a, b, b2, f, y, y2, rfl, hA, hj, hr', npr, hby, hby2, q⟩ := h
  have nd := sc_pass_on.nd
  refine ⟨_, (bC (ps_set (i := 3) nd rfl (by first | exact Or.inl rfl | exact Or.inr rfl) (pe_fn O_slot_at hr rfl (aC (pv 0) (aC (pv 2) aN))))
   (bC (ps_set (i := 4) nd rfl (by first | exact Or.inl rfl | exact Or.inr rfl) (pe_fn O_slot_at hr rfl (aC (pv 0) (aC (pf_place T (pv 1)) aN))))
   (bC (sf_owner T (pv 4) (pf_owner T (pv 3)) rfl)
   (bO (ps_expr (pe_fn O_take_place hr rfl (aC (pv 0) (aC (pv 1) (aC (pv 2) aN))))))))), ?_⟩
  refine ⟨_, rfl, _, rfl, k, p, b, y, rfl, hA, hby, ?_⟩
  refine ⟨_, rfl, _, rfl, a, f, rfl, hA.flight hj, k, r, b2, y2, (by show [V.ref k.h, V.int (pI f.place)] ++ [] = _; rw [hr']; rfl), hA, hby2, ?_⟩
  refine ⟨_, rfl, b, y, rfl, hA.slot hby, _, rfl, b2, y2, { y2 with owner := y.owner }, rfl, hA.slot hby2, rfl, fun H1 h1 ho1 => ?_⟩
  have A1 := hA.setS hby2 h1 ho1
  have K1 := (Keep.refl H k).put (foot_slot hby2) (IsSl.some (x := { y2 with owner := y.owner }) h1) ho1
  have hby1 : (k.ss.set r (b2, { y2 with owner := y.owner }))[p]? = some (b, y) := by rw [List.getElem?_set_ne (Ne.symm npr)]; exact hby
  have f1 : IsFl c.F H1 a f := A1.flight (k := { k with ss := k.ss.set r (b2, { y2 with owner := y.owner }) }) hj
  refine ⟨_, rfl, _, rfl, _, rfl, { k with ss := k.ss.set r (b2, { y2 with owner := y.owner }) }, a, b, f, y, p, rfl, A1, f1, hby1, .inl ⟨j, hj⟩, fun H2 ha2 hb2 ho2 => ?_⟩
  obtain ⟨A2, _⟩ := A1.putFO (k := { k with ss := k.ss.set r (b2, { y2 with owner := y.owner }) }) hj hby1 (f' := { f with place := some p }) (x' := { y with owner := some f.carrier }) rfl ha2 hb2 ho2
  refine q H2 A2 ⟨fun u o hn eu => ?_, fun u hu => ?_⟩
  ·rw [ho2 u (fun z' => hn (by rw [z']; exact foot_flight hj)) fun z' => hn (by rw [z']; exact foot_slot hby)]; exact K1.out u o hn eu
  ·by_cases z1 : u = a
   ·obtain ⟨o, eo⟩ := IsFl.some (f := { f with place := some p }) ha2
    rw [z1, eo] at hu; cases hu
   ·by_cases z2 : u = b
    ·obtain ⟨o, eo⟩ := IsSl.some (x := { y with owner := some f.carrier }) hb2
     rw [z2, eo] at hu; cases hu
    ·rw [ho2 u z1 z2] at hu; exact K1.stay u hu
end
end SHP
end
section
namespace SHP
open PySem PySem.Spec PyProof.Rows L2 SH
open Vbahas (Slot Flight State)
def mvL (l : List (Int × Nat × Nat)) : List Int := l.flatMap fun y => [y.1, (y.2.1 : Int) + 1, (y.2.2 : Int) + 1]
theorem mvL_len : ∀ l : List (Int × Nat × Nat), (mvL l).length = 3 * l.length
 | [] => rfl
 | y :: l => by
  show ([y.1, (y.2.1 : Int) + 1, (y.2.2 : Int) + 1] ++ mvL l).length = _
  rw [List.length_append, mvL_len l, List.length_cons]
  simp
  omega
theorem mvL_snoc (l : List (Int × Nat × Nat)) (y : Int × Nat × Nat) : mvL (l ++ [y]) = mvL l ++ [y.1, (y.2.1 : Int) + 1, (y.2.2 : Int) + 1] := by
 unfold mvL
 rw [List.flatMap_append]
 simp
theorem passOn_held {n p : Nat} {s : State} (h : Vbahas.isOpen s p = false) : Vbahas.passOn (n + 1) p s = Vbahas.passOn n (p + 1) s := by
 rw [Vbahas.passOn, if_neg (by rw [h]; decide)]
theorem passOn_none {n p : Nat} {s : State} (h : Vbahas.isOpen s p = true) (hc : Vbahas.comer s p = none) : Vbahas.passOn (n + 1) p s = Vbahas.passOn n (p + 1) s := by
 rw [Vbahas.passOn, if_pos h, hc]
theorem passOn_some {n p : Nat} {s : State} {f : Flight} (h : Vbahas.isOpen s p = true) (hc : Vbahas.comer s p = some f) : Vbahas.passOn (n + 1) p s = ((Vbahas.passOn n (p + 1) (Vbahas.moveUp s p f)).1, (f.id, f.place.getD 0, p) :: (Vbahas.passOn n (p + 1) (Vbahas.moveUp s p f)).2) := by
 rw [Vbahas.passOn, if_pos h, hc]
theorem comer_may {s : State} {p : Nat} {f : Flight} (h : Vbahas.comer s p = some f) : f ∈ s.flights /\ Vbahas.mayCome s p f = true := by
 unfold Vbahas.comer at h
 dsimp only at h
 unfold Vbahas.nearest at h
 split at h
 ·rename_i g hg
  cases h
  have := mem_sortBy.mp (List.mem_of_head? hg)
  have := List.mem_filter.mp (List.mem_filter.mp this).1
  exact this
 ·have := mem_sortBy.mp (List.mem_of_head? h)
  exact List.mem_filter.mp this
structure CompI (c : Cs) (H H2 : Hp) (k : Hs) (s : State) (lm : Addr) (i : Nat) (k2 : Hs) (s2 : State) (mv : List (Int × Nat × Nat)) : Prop where
 st : Sta c H2 k2 s2
 lk : Lke k k2
 g : k2.g = true
 w : H2 lm = some (.lst ((mvL mv).map V.int))
 len : mv.length <= i
 eq : Vbahas.passOn k.ss.length 0 s = ((Vbahas.passOn (k.ss.length - i) i s2).1, mv ++ (Vbahas.passOn (k.ss.length - i) i s2).2)
 out : ∀ b o, b ≠ lm -> ¬ k.foot b -> H b = some o -> H2 b = some o
 stay : ∀ b, H2 b = none -> H b = none
theorem CompI.same {c : Cs} {H H2 H3 : Hp} {k k2 : Hs} {s s2 : State} {lm : Addr} {i : Nat} {mv : List (Int × Nat × Nat)} (C : CompI c H H2 k s lm i k2 s2 mv) (sm : Same H2 H3) : CompI c H H3 k s lm i k2 s2 mv :=
 ⟨C.st.same sm, C.lk, C.g, sm _ _ C.w, C.len, C.eq, fun b o h1 h2 e => sm _ _ (C.out b o h1 h2 e), fun b h => C.stay b (sm.free h)⟩
theorem CompI.skip {c : Cs} {H H2 : Hp} {k k2 : Hs} {s s2 : State} {lm : Addr} {i : Nat} {mv : List (Int × Nat × Nat)} (C : CompI c H H2 k s lm i k2 s2 mv) (hi : i < k.ss.length) (h : Vbahas.isOpen s2 i = false \/ (Vbahas.isOpen s2 i = true /\ Vbahas.comer s2 i = none)) : CompI c H H2 k s lm (i + 1) k2 s2 mv := by
 refine { C with len := Nat.le_succ_of_le C.len, eq := ?_ }
 have e := C.eq
 have en : k.ss.length - i = (k.ss.length - (i + 1)) + 1 := by omega
 rw [en] at e
 rcases h with h | ⟨h, hc⟩
 ·rw [passOn_held h] at e; exact e
 ·rw [passOn_none h hc] at e; exact e
section
variable {P : Program} {w : World} {K : PySem.W.Frag} {mg : Str -> Option Value} {base : Heap} {c : Cs}
theorem sc_compress : FSc ["house", "count", "moves", "place", "flight"] ["house"] (dSc s_compress) := ⟨rfl, rfl, rfl, by decide +kernel, rfl, by decide +kernel, by decide +kernel⟩
def sp_compress (c : Cs) : Sp := fun vs H Q _ => ∃ (k : Hs) (s : State), vs = [.ref k.h] /\ Sta c H k s /\ Ans c H k (Vbahas.step s .compress) Q
theorem ok_compress (T : Txt K mg c) (D : DefAt K mg "compress" s_compress ["house"]) (O_all_places : Ok P w K mg base 1 "all_places" ["house"] (sp_all_places c)) (O_holders : Ok P w K mg base 1 "holders" ["house"] (sp_holders c))
  (O_comer : Ok P w K mg base 3 "comer" ["house", "place"] (sp_comer c)) (O_pass_on : Ok P w K mg base 3 "pass_on" ["house", "flight", "place"] (sp_pass_on c)) : Ok P w K mg base 4 "compress" ["house"] (sp_compress c) := by
 refine mkOk D sc_compress (fun vs H Q E h => ?_) fun f cdv A outer s H vs Q E hr h => ?_
 ·obtain ⟨k, s, rfl, _⟩ := h; rfl
 ·obtain ⟨k, s, rfl, hS, q⟩ := h
  have nd := sc_compress.nd
  have hu := hu_of hr
  have hA := hS.at_
  refine ⟨_, (bC (ps_if (pt_not (pt_val (pf_given_out T (pv 0)))) (bO (pRt (pe_lst (aC (gIn T.c_NOT_GIVEN_OUT rfl) aN)))) bN)
   (bC (ps_set (i := 1) nd rfl (by first | exact Or.inl rfl | exact Or.inr rfl) pe_int)
   (bC (ps_set (i := 2) nd rfl (by first | exact Or.inl rfl | exact Or.inr rfl) (pe_lst aN))
   (bC (ps_for PassesOwn.never rfl (pi_list (pe_fn O_all_places hr rfl (aC (pv 0) aN))) (pg_name (i := 3) nd rfl (Or.inl rfl)) (bC (ps_set (i := 4) nd rfl (by first | exact Or.inl rfl | exact Or.inr rfl) (pe_ifExp (pt_cmp (pc_din hu (pv 3) (pe_fn O_holders hr rfl (aC (pv 0) aN)))) pe_non (pe_fn O_comer hr rfl (aC (pv 0) (aC (pv 3) aN)))))
   (bO (ps_if (pt_cmp (pc_notN (pv 4))) (bC (ps_aug (i := 1) nd rfl (by first | exact Or.inl rfl | exact Or.inr rfl) pe_int ip_add)
   (bC (ps_expr (pe_bm PySem.F.plainAttrs_list PySem.F.slot_list_extend PySem.F.type_list_extend mt_extend (pv 2) (aC (pe_lst (aC (pf_number T (pv 4)) (aC (pf_place T (pv 4)) (aC (pv 3) aN)))) aN)))
   (bO (ps_expr (pe_fn O_pass_on hr rfl (aC (pv 0) (aC (pv 4) (aC (pv 3) aN)))))))) bN))))
   (bO (pRt (pe_op op_cat (pe_lst (aC pe_int (aC (pv 1) aN))) (pv 2)))))))), ?_⟩
  refine ⟨_, rfl, k.h, (k.la, k.da, k.g), rfl, hA.hh, _, rfl, iteN (fun e1 => ?_) fun e1 => ?_⟩
  ·have e : Vbahas.step s .compress = (s, [-3]) := by
    simp only [Vbahas.step]
    rw [if_pos (by rw [hS.rel.gv]; exact e1)]
   rw [e] at q
   exact ⟨zl1, (q.ro hS rfl (Same.refl H)).of (Same.refl H)⟩
  have e1 : k.g = true := e1
  have e : Vbahas.step s .compress = ((Vbahas.passOn k.ss.length 0 s).1, 0 :: ((Vbahas.passOn k.ss.length 0 s).2.length : Int) :: mvL (Vbahas.passOn k.ss.length 0 s).2) := by
   have hl : s.slots.length = k.ss.length := by rw [hS.rel.sl, Hs.sl_len]
   simp only [Vbahas.step, Vbahas.compress]
   rw [if_neg (by rw [hS.rel.gv, e1]; decide), hl]
   rfl
  rw [e] at q
  refine ⟨Nat.zero_le _, fun lm hlm => ?_⟩
  have sm1 : Same H (upd H lm (.lst [])) := Same.upd hlm
  have hS1 := hS.same sm1
  refine ⟨_, rfl, k, rfl, hS1.at_, hS1.nsl, fun lp H2 hlp s2 ep => ⟨lp, rfl, ⟨_, SqL.of ep⟩, ?_⟩⟩
  have hS2 := hS1.same s2
  have nlm : ¬ k.foot lm := foot_none hS hlm
  have nlp : ¬ k.foot lp := foot_none hS1 hlp
  have npm : lp ≠ lm := Ne.symm (nN uS hlp)
  refine for_list (K := K) (a := lp) (xs := (List.range k.ss.length).map plV) (fun i σ H5 => ∃ v3 v4 k2 s2 mv, σ = [some (.ref k.h), some (.int (mv.length : Int)), some (.ref lm), v3, v4] /\ CompI c H2 H5 k s lm i k2 s2 mv) ?_ ?_ ?_ ?_
  ·exact ⟨none, none, k, s, [], rfl, hS2, ⟨rfl, rfl, rfl, rfl, rfl⟩, e1, s2 _ _ uS, Nat.le_refl _, rfl, fun b o _ _ e => e, fun b h => h⟩
  ·rintro i σ H5 _ ⟨v3, v4, k2, s2, mv, _, C⟩
   exact SqL.of (C.out lp _ npm nlp ep)
  ·rintro i v σ H5 hi ⟨v3, v4, k2, s2, mv, rfl, C⟩
   rw [List.getElem?_map] at hi
   obtain ⟨p, hp', rfl⟩ := Option.map_eq_some_iff.mp hi
   obtain ⟨hil, hpi⟩ := List.getElem?_eq_some_iff.mp hp'
   rw [List.getElem_range] at hpi
   subst hpi
   rw [List.length_range] at hil
   have hil2 : i < k2.ss.length := by
    have := congrArg List.length C.lk.ss
    rw [List.length_map, List.length_map] at this
    omega
   refine ⟨_, rfl, _, rfl, k2, s2, (by rw [C.lk.h]; rfl), C.st, fun d H6 kvs hd s6 ed hheld => ⟨d, _, rfl, DGet.k (k := Sum.inl ((i : Int) + 1)) ed, _, rfl, ?_⟩⟩
   rw [held_P hheld, C.st.rel.held]
   have C6 := C.same s6
   refine iteN (fun eo => ?_) fun eo => ?_
   ·refine ⟨_, rfl, _, rfl, ?_⟩
    exact ⟨_, _, k2, s2, mv, rfl, C6.skip hil (.inl eo)⟩
   ·refine ⟨_, rfl, _, rfl, k2, s2, i, (by rw [C.lk.h]; rfl), C6.st, hil2, fun hc H7 s7 => ?_, fun x hx hc H7 s7 => ?_⟩
    ·refine ⟨_, rfl, _, rfl, ?_⟩
     exact ⟨_, _, k2, s2, mv, rfl, (C6.same s7).skip hil (.inr ⟨eo, hc⟩)⟩
    ·have C7 := C6.same s7
     have hA7 := C7.st.at_
     obtain ⟨hfm, hmay⟩ := comer_may hc
     obtain ⟨hgo, ⟨r, hr', hlt⟩, _, hrd⟩ := mayCome_iff.mp hmay
     obtain ⟨j, hj⟩ := List.getElem?_of_mem hx
     have hfx := hA7.hf x hx
     refine ⟨_, rfl, _, rfl, ?_⟩
     refine ⟨_, rfl, _, _, rfl, rfl, ?_⟩
     refine ⟨_, rfl, .inl ⟨rfl, _, SqL.of C7.w⟩, _, rfl, x.1, x.2, rfl, hfx, _, rfl, x.1, x.2, rfl, hfx, _, rfl, zl3, fun l3 hl3 => ?_⟩
     have n3 : lm ≠ l3 := nN C7.w hl3
     refine ⟨lm, l3, _, _, rfl, rfl, (by rw [uN n3]; exact C7.w), uS, ?_, ?_⟩
     ·rw [List.length_map, mvL_len]
      have := C7.len
      have := hS.nsl
      refine line1000 ?_
      show 3 * mv.length + 3 <= 1000
      omega
     have nf3 : ¬ k2.foot l3 := foot_none C7.st hl3
     have nfm : ¬ k2.foot lm := fun z => nlm (C7.lk.foot.mp z)
     have A8 : At c (upd (upd H7 l3 (.lst [V.int x.2.id, V.int (pI x.2.place), plV i])) lm (.lst ((mvL mv).map V.int ++ [V.int x.2.id, V.int (pI x.2.place), plV i]))) k2 := hA7.keep fun b o hb e => by
      rw [uN (fun (z : b = lm) => nfm (by rw [<- z]; exact hb)), uN (fun (z : b = l3) => nf3 (by rw [<- z]; exact hb))]; exact e
     obtain ⟨b, y, hby⟩ := Hs.get hil2
     obtain ⟨b2, y2, hby2⟩ := C7.st.place hx hr'
     refine ⟨_, rfl, _, rfl, _, rfl, k2, i, r, j, x.1, b, b2, x.2, y, y2, (by rw [C.lk.h]; rfl), A8, hj, hr', (by omega), hby, hby2, fun H9 A9 K9 => ?_⟩
     have Rm := C7.st.rel.moved (Hs.mem_fl hx) eo hr' hmay
     have esl : ((k2.ss.set r (b2, { y2 with owner := y.owner })).set i (b, { y with owner := some x.2.carrier })).map (·.2) = ownAt (ownAt k2.sl r (oOf k2.sl i)) i (some x.2.carrier) := by
      have h1 : ownAt k2.sl r (oOf k2.sl i) = (k2.ss.set r (b2, { y2 with owner := y.owner })).map (·.2) := by
       rw [List.map_set, Hs.oOf_ss hby]
       exact ownAt_set _ _ _ (by unfold Hs.sl; rw [List.getElem?_map, hby2]; rfl)
      rw [h1, List.map_set]
      refine (ownAt_set _ _ _ (x := y) ?_).symm
      rw [List.getElem?_map, List.getElem?_set_ne (by omega), hby]; rfl
     have efl : (k2.fs.set j (x.1, { x.2 with place := some i })).map (·.2) = k2.fl.map (SH.putF { x.2 with place := some i }) := by
      rw [List.map_set]
      exact set_putF (f := x.2) C7.st.rel.ids (by unfold Hs.fl; rw [List.getElem?_map, hj]; rfl) rfl
     refine ⟨some (plV i), some (V.ref x.1), { k2 with ss := (k2.ss.set r (b2, { y2 with owner := y.owner })).set i (b, { y with owner := some x.2.carrier }), fs := k2.fs.set j (x.1, { x.2 with place := some i }) }, Vbahas.moveUp s2 i x.2, mv ++ [(x.2.id, r, i)], ?_, ⟨A9, ?_⟩, ?_, C7.g, ?_, ?_, ?_, fun b' o h1 h2 e => ?_, fun b' hb' => ?_⟩
     ·have : ((mv.length : Int) + 1) = ((mv ++ [(x.2.id, r, i)]).length : Int) := by rw [List.length_append]; rfl
      rw [<- this]
      rfl
     ·show SH.Rel (((k2.ss.set r (b2, { y2 with owner := y.owner })).set i (b, { y with owner := some x.2.carrier })).map (·.2)) ((k2.fs.set j (x.1, { x.2 with place := some i })).map (·.2)) k2.g _
      rw [esl, efl]
      exact Rm
     ·refine ⟨C.lk.h, C.lk.la, C.lk.da, ?_, ?_⟩
      ·show ((k2.ss.set r (b2, { y2 with owner := y.owner })).set i (b, { y with owner := some x.2.carrier })).map (·.1) = _
       have hby1 : (k2.ss.set r (b2, { y2 with owner := y.owner }))[i]? = some (b, y) := by rw [List.getElem?_set_ne (by omega)]; exact hby
       rw [map_fst_set hby1, map_fst_set hby2]
       exact C.lk.ss
      ·show (k2.fs.set j (x.1, { x.2 with place := some i })).map (·.1) = _
       rw [map_fst_set (x := x.2) hj]
       exact C.lk.fs
     ·have h9 := K9.out lm _ nfm uS
      rw [h9, mvL_snoc, List.map_append]
      show some (HO.lst ((mvL mv).map V.int ++ [V.int x.2.id, V.int (pI x.2.place), plV i])) = _
      rw [hr']
      rfl
     ·rw [List.length_append]
      have := C7.len
      show mv.length + 1 <= i + 1
      omega
     ·have e := C7.eq
      have en : k.ss.length - i = (k.ss.length - (i + 1)) + 1 := by omega
      rw [en, passOn_some eo hc, hr'] at e
      rw [e, List.append_assoc]
      rfl
     ·refine K9.out b' o (fun z => h2 (C7.lk.foot.mp z)) ?_
      have e7 := C7.out b' o h1 h2 e
      rw [uN h1, uN (nN e7 hl3)]
      exact e7
     ·have h9 := K9.stay b' hb'
      by_cases z : b' = lm
      ·rw [z, uS] at h9; cases h9
      ·rw [uN z] at h9
       by_cases z3 : b' = l3
       ·rw [z3, uS] at h9; cases h9
       ·rw [uN z3] at h9
        exact C7.stay b' h9
  ·rintro σ H5 ⟨v3, v4, k2, s2', mv, rfl, C⟩
   have ce := C.eq
   rw [List.length_map, List.length_range, Nat.sub_self, Vbahas.passOn, List.append_nil] at ce
   rw [ce] at q
   have F5 : Fra H H5 k k2 := by
    refine ⟨C.lk.h, fun b hb => sm1.free (s2.free (C.stay b hb)), fun b o e hn => ?_, fun b hb => .inl (C.lk.foot.mp hb)⟩
    exact C.out b o (fun z => by rw [z, hlm] at e; cases e) hn (s2 _ _ (sm1 _ _ e))
   refine ⟨_, rfl, zl2, fun l1 hl1 => ?_⟩
   refine ⟨_, rfl, l1, lm, _, _, rfl, rfl, uS, Same.upd hl1 _ _ C.w, ?_, fun l2 hl2 => ?_⟩
   ·rw [List.length_map, mvL_len]
    have := C.len
    rw [List.length_map, List.length_range] at this
    have := hS.nsl
    refine line1000 ?_
    show 2 + 3 * mv.length <= 1000
    omega
   ·exact (q.fin C.st F5).of (Same.upd hl1) l2 hl2
end
end SHP
end
section
namespace SHP
open PySem PySem.Spec PyProof.Rows L2 SH
open Vbahas (Slot Flight State)
def inR (x : Int) (r : Int × Int) : Bool := decide (r.1 <= x) && decide (x <= r.2)
def allR : List Int -> List (Int × Int) -> Bool
 | x :: xs, r :: rs => inR x r && allR xs rs
 | _, _ => true
def Rgs (K : PySem.W.Frag) (H : Hp) (as : List Addr) (rs : List (Int × Int)) : Prop := as.length = rs.length /\ ∀ (i : Nat) (a : Addr) (r : Int × Int), as[i]? = some a -> rs[i]? = some r -> SqT K H a [.int r.1, .int r.2]
theorem allR_iff : ∀ {xs : List Int} {rs : List (Int × Int)}, xs.length = rs.length -> (allR xs rs = true ↔ ∀ (i : Nat) x r, xs[i]? = some x -> rs[i]? = some r -> inR x r = true)
 | [], [], _ => ⟨fun _ i x r h => by simp at h, fun _ => rfl⟩
 | x :: xs, r :: rs, h => by
  have ih := allR_iff (xs := xs) (rs := rs) (by simpa using h)
  unfold allR
  rw [Bool.and_eq_true, ih]
  constructor
  ·rintro ⟨h1, h2⟩ i y q hy hq
   cases i with
   | zero =>
    have e1 : x = y := Option.some.inj hy
    have e2 : r = q := Option.some.inj hq
    rw [<- e1, <- e2]; exact h1
   | succ i => exact h2 i y q (by simpa using hy) (by simpa using hq)
  ·intro h
   exact ⟨h 0 x r rfl rfl, fun i y q hy hq => h (i + 1) y q (by simpa using hy) (by simpa using hq)⟩
theorem Same.sqT {K : PySem.W.Frag} {H H' : Hp} {a : Addr} {xs : List V} (s : Same H H') (h : SqT K H a xs) : SqT K H' a xs := by
 rcases h with (h | ⟨o, h⟩) | h
 ·exact .inl (.inl (s _ _ h))
 ·exact .inl (.inr ⟨o, s _ _ h⟩)
 ·exact .inr h
section
variable {P : Program} {w : World} {K : PySem.W.Frag} {mg : Str -> Option Value} {base : Heap} {c : Cs}
theorem sc_all_in_range : FSc ["numbers", "ranges", "number", "bounds"] ["numbers", "ranges"] (dSc s_all_in_range) := ⟨rfl, rfl, rfl, by decide +kernel, rfl, by decide +kernel, by decide +kernel⟩
def sp_all_in_range (K : PySem.W.Frag) : Sp := fun vs H Q _ => ∃ (l m : Addr) (ns : List Int) (as : List Addr) (rs : List (Int × Int)), vs = [.ref l, .ref m] /\ H l = some (.lst (ns.map V.int)) /\ H m = some (.lst (as.map V.ref)) /\ Rgs K H as rs /\ ns.length = rs.length /\ ∀ H', Same H H' -> Q (.bl (allR ns rs)) H'
theorem ok_all_in_range (T : Txt K mg c) (D : DefAt K mg "all_in_range" s_all_in_range ["numbers", "ranges"]) : Ok P w K mg base 1 "all_in_range" ["numbers", "ranges"] (sp_all_in_range K) := by
 refine mkOk D sc_all_in_range (fun vs H Q E h => ?_) fun f cdv A outer s H vs Q E hr h => ?_
 ·obtain ⟨l, m, ns, as, rs, rfl, _⟩ := h; rfl
 ·obtain ⟨l, m, ns, as, rs, rfl, hl, hm, hR, hn, q⟩ := h
  have nd := sc_all_in_range.nd
  refine ⟨_, (bC (ps_for PassesOwn.never rfl (pi_zip rfl T.b_zip (aC (pv 0) (aC (pv 1) aN))) (pg_tup rfl (pgs_cons (pg_name (i := 2) nd rfl (Or.inl rfl)) (pgs_cons (pg_name (i := 3) nd rfl (Or.inl rfl)) pgs_nil))) (bO (ps_if (PW.pt (pw_or (tCm op_lt (pv 2) (pe_ix ix_tup (pv 3) pe_int (fun _ _ => rfl)) (nMk _)) (pw_or1 (tCm op_gt (pv 2) (pe_ix ix_tup (pv 3) pe_int (fun _ _ => rfl)) (nMk _))))) (bO (pRt pe_bl)) bN)))
   (bO (pRt pe_bl))), ?_⟩
  refine ⟨_, rfl, _, rfl, l, m, _, _, rfl, SqL.of hl, SqL.of hm, for_zip (K := K) (a := l) (b := m) (xs := ns.map V.int) (ys := as.map V.ref) (fun i σ H2 => ∃ v2 v3, σ = [some (.ref l), some (.ref m), v2, v3] /\ Same H H2 /\ ∀ (j : Nat) x r, j < i -> ns[j]? = some x -> rs[j]? = some r -> inR x r = true) (by rw [List.length_map, List.length_map, hR.1, hn]) ⟨none, none, rfl, Same.refl H, fun j x r h => (Nat.not_lt_zero _ h).elim⟩ ?_ ?_ ?_⟩
  ·rintro i σ H2 _ ⟨v2, v3, _, sm, _⟩
   exact ⟨SqL.of (sm _ _ hl), SqL.of (sm _ _ hm)⟩
  ·rintro i x y σ H2 t hx hy ⟨v2, v3, rfl, sm, hall⟩ ht
   rw [List.getElem?_map] at hx hy
   obtain ⟨z, hz, rfl⟩ := Option.map_eq_some_iff.mp hx
   obtain ⟨a, ha, rfl⟩ := Option.map_eq_some_iff.mp hy
   obtain ⟨r, hr'⟩ : ∃ r, rs[i]? = some r := ⟨_, List.getElem?_eq_getElem (by have := (List.getElem?_eq_some_iff.mp hz).1; omega)⟩
   have sm3 : Same H (upd H2 t (.tup [V.int z, V.ref a])) := sm.trans (Same.upd ht)
   have hT := Same.sqT sm3 (hR.2 i a r ha hr')
   refine ⟨t, _, rfl, SqT.of uS, rfl, _, _, rfl, _, _, rfl, rfl, ?_⟩
   refine ⟨_, rfl, _, rfl, a, _, _, _, rfl, rfl, hT, at_of (j := 0) (v := V.int r.1) rfl rfl, _, _, rfl, rfl, _, rfl, ?_⟩
   have bad : inR z r = false -> Q (.bl false) (upd H2 t (.tup [V.int z, V.ref a])) := fun h => by
    have e : allR ns rs = false := by
     cases hh : allR ns rs with
     | false => rfl
     | true =>
      have := (allR_iff hn).mp hh i z r hz hr'
      rw [h] at this; cases this
    have := q _ sm3
    rw [e] at this
    exact this
   by_cases e1 : z < r.1
   ·rw [decide_eq_true e1]
    refine bad ?_
    unfold inR
    rw [decide_eq_false (show ¬ r.1 <= z by omega), Bool.false_and]
   ·rw [decide_eq_false e1]
    refine ⟨_, rfl, _, rfl, a, _, _, _, rfl, rfl, hT, at_of (j := 1) (v := V.int r.2) rfl rfl, _, _, rfl, rfl, _, rfl, iteD (fun e2 => ?_) fun e2 => ?_⟩
    ·refine bad ?_
     unfold inR
     rw [decide_eq_false (show ¬ z <= r.2 by have : r.2 < z := e2; omega), Bool.and_false]
    ·refine ⟨_, _, rfl, sm3, fun j x2 q2 hj hx2 hq2 => ?_⟩
     by_cases hji : j = i
     ·subst hji
      rw [hz] at hx2
      rw [hr'] at hq2
      rw [<- Option.some.inj hx2, <- Option.some.inj hq2]
      unfold inR
      rw [decide_eq_true (show r.1 <= z by omega), decide_eq_true (show z <= r.2 by have : ¬ r.2 < z := e2; omega)]
      rfl
     ·exact hall j x2 q2 (by omega) hx2 hq2
  ·rintro σ H2 ⟨v2, v3, rfl, sm, hall⟩
   have e : allR ns rs = true := (allR_iff hn).mpr fun i x r hx hr' => hall i x r (by rw [List.length_map]; exact (List.getElem?_eq_some_iff.mp hx).1) hx hr'
   have := q H2 sm
   rw [e] at this
   exact this
end
end SHP
end
section
namespace SHP
open PySem PySem.Spec PyProof.Rows L2 SH
open Vbahas (Slot Flight State)
section
variable {P : Program} {w : World} {K : PySem.W.Frag} {mg : Str -> Option Value} {base : Heap} {c : Cs}
theorem sc_tell_slot : FSc ["house", "number", "flight"] ["house", "number"] (dSc s_tell_slot) := ⟨rfl, rfl, rfl, by decide +kernel, rfl, by decide +kernel, by decide +kernel⟩
def sp_tell_slot (c : Cs) : Sp := fun vs H Q _ => ∃ (k : Hs) (s : State) (i : Int), vs = [.ref k.h, .int i] /\ Sta c H k s /\ Ans c H k (Vbahas.step s (.slot i)) Q
theorem ok_tell_slot (T : Txt K mg c) (D : DefAt K mg "tell_slot" s_tell_slot ["house", "number"]) (O_told_slot : Ok P w K mg base 3 "told_slot" ["house", "flight"] (sp_told_slot c)) : Ok P w K mg base 4 "tell_slot" ["house", "number"] (sp_tell_slot c) := by
 refine mkOk D sc_tell_slot (fun vs H Q E h => ?_) fun f cdv A outer s H vs Q E hr h => ?_
 ·obtain ⟨k, s, i, rfl, _⟩ := h; rfl
 ·obtain ⟨k, s, i, rfl, hS, q⟩ := h
  have nd := sc_tell_slot.nd
  have hu := hu_of hr
  have hA := hS.at_
  refine ⟨_, (bC (ps_if (pt_cmp (pc_dnotin hu (pv 1) (pf_flights T (pv 0)))) (bO (pRt (pe_lst (aC (gIn T.c_NOT_THERE rfl) aN)))) bN)
   (bC (ps_set (i := 2) nd rfl (by first | exact Or.inl rfl | exact Or.inr rfl) (pe_dget hu (pf_flights T (pv 0)) (pv 1) (fun _ _ => rfl)))
   (bO (pRt (pe_op op_cat (pe_lst (aC pe_int (aC (pe_ifExp (pt_val (pf_cancelled T (pv 2))) pe_int pe_int) aN))) (pe_fn O_told_slot hr rfl (aC (pv 0) (aC (pv 2) aN)))))))), ?_⟩
  refine ⟨_, rfl, _, rfl, k.h, (k.la, k.da, k.g), rfl, hA.hh, k.da, _, rfl, DGet.k (k := Sum.inl i) hA.hd, _, rfl, ?_⟩
  rw [dget]
  rcases hS.look i with ⟨hn, hfn⟩ | ⟨j, a, f, hj, hi, hfd, hfo⟩
  ·have e : Vbahas.step s (.slot i) = (s, [-5]) := by simp only [Vbahas.step, hfn]
   rw [e] at q
   rw [hn]
   exact ⟨zl1, (q.ro hS rfl (Same.refl H)).of (Same.refl H)⟩
  rw [hfd]
  have hm : (a, f) ∈ k.fs := List.mem_of_getElem? hj
  have e : Vbahas.step s (.slot i) = (s, 0 :: (if f.gone = true then 1 else 0) :: toldL k.sl f) := by
   simp only [Vbahas.step, hfo]
   rw [told_eq, hS.rel.sl]
  rw [e] at q
  refine ⟨_, rfl, k.h, (k.la, k.da, k.g), rfl, hA.hh, _, rfl, k.da, V.ref a, rfl, (by have := DGet.k (k := Sum.inl i) hA.hd; rw [dget, hfd] at this; exact this), ?_⟩
  have fin : ∀ b : Int, b = (if f.gone = true then 1 else 0) -> ∀ l1, H l1 = none -> ∀ l2 H2, (upd H l1 (.lst [.int 0, .int b])) l2 = none -> Same (upd H l1 (.lst [.int 0, .int b])) H2 -> H2 l2 = some (.lst ((toldL k.sl f).map V.int)) -> ∀ l3, H2 l3 = none -> Q (.ref l3) (upd H2 l3 (.lst ([.int 0, .int b] ++ (toldL k.sl f).map V.int))) := fun b hb l1 hl1 l2 H2 hl2 s2 e2 l3 hl3 => by
   rw [<- hb] at q
   exact (q.ro hS rfl ((Same.upd hl1).trans s2)).of (Same.refl H2) l3 hl3
  refine ⟨_, rfl, a, f, rfl, hA.flight hj, _, rfl, iteB (fun eg => ?_) fun eg => ?_⟩
  ·refine ⟨zl2, fun l1 hl1 => ⟨_, rfl, _, rfl, k, s, (a, f), rfl, hS.same (Same.upd hl1), hm, fun l2 H2 hl2 s2 e2 => ⟨l1, l2, _, _, rfl, rfl, s2 _ _ uS, e2, (by rw [List.length_map, told_len]; show 2 + 3 <= sizeLine; decide), fun l3 hl3 => fin 1 (by rw [if_pos eg]) l1 hl1 l2 H2 hl2 s2 e2 l3 hl3⟩⟩⟩
  ·refine ⟨zl2, fun l1 hl1 => ⟨_, rfl, _, rfl, k, s, (a, f), rfl, hS.same (Same.upd hl1), hm, fun l2 H2 hl2 s2 e2 => ⟨l1, l2, _, _, rfl, rfl, s2 _ _ uS, e2, (by rw [List.length_map, told_len]; show 2 + 3 <= sizeLine; decide), fun l3 hl3 => fin 0 (by rw [if_neg (by rw [eg]; decide)]) l1 hl1 l2 H2 hl2 s2 e2 l3 hl3⟩⟩⟩
theorem sc_tell_open : FSc ["house", "places"] ["house"] (dSc s_tell_open) := ⟨rfl, rfl, rfl, by decide +kernel, rfl, by decide +kernel, by decide +kernel⟩
def sp_tell_open (c : Cs) : Sp := fun vs H Q _ => ∃ (k : Hs) (s : State), vs = [.ref k.h] /\ Sta c H k s /\ Ans c H k (Vbahas.step s .open_) Q
theorem ok_tell_open (T : Txt K mg c) (D : DefAt K mg "tell_open" s_tell_open ["house"]) (O_open_places : Ok P w K mg base 2 "open_places" ["house"] (sp_open_places c)) : Ok P w K mg base 3 "tell_open" ["house"] (sp_tell_open c) := by
 refine mkOk D sc_tell_open (fun vs H Q E h => ?_) fun f cdv A outer s H vs Q E hr h => ?_
 ·obtain ⟨k, s, rfl, _⟩ := h; rfl
 ·obtain ⟨k, s, rfl, hS, q⟩ := h
  have nd := sc_tell_open.nd
  refine ⟨_, (bC (ps_set (i := 1) nd rfl (by first | exact Or.inl rfl | exact Or.inr rfl) (pe_fn O_open_places hr rfl (aC (pv 0) aN)))
   (bO (pRt (pe_op op_cat (pe_lst (aC pe_int (aC (pe_callB cLn (by rfl) T.b_len PySem.boot_len (aC (pv 1) aN)) aN))) (pv 1))))), ?_⟩
  have e : Vbahas.step s .open_ = (s, 0 :: ((freeL k.sl k.fl).length : Int) :: (freeL k.sl k.fl).map pl1) := by
   simp only [Vbahas.step]
   rw [hS.rel.opens]
   rfl
  rw [e] at q
  refine ⟨_, rfl, k, s, rfl, hS, fun l1 H1 hl1 s1 e1 => ?_⟩
  refine ⟨_, rfl, l1, _, rfl, .inl (SqL.of e1), zl2, fun l2 hl2 => ?_⟩
  refine ⟨_, rfl, l2, l1, _, _, rfl, rfl, uS, Same.upd hl2 _ _ e1, ?_, fun l3 hl3 => ?_⟩
  ·rw [List.length_map]
   refine line1000 ?_
   show 2 + _ <= 1000
   have := free_len k
   have := hS.nsl
   omega
  ·have := (q.ro hS rfl (s1.trans (Same.upd (o := .lst [V.int 0, V.int (((freeL k.sl k.fl).map plV).length : Int)]) hl2))).of (Same.refl _) l3 hl3
   rw [List.map_cons, List.map_cons, <- pl_map, <- List.length_map (f := plV)] at this
   exact this
theorem sc_tell_total : FSc ["house", "flights"] ["house"] (dSc s_tell_total) := ⟨rfl, rfl, rfl, by decide +kernel, rfl, by decide +kernel, by decide +kernel⟩
def sp_tell_total (c : Cs) : Sp := fun vs H Q _ => ∃ (k : Hs) (s : State), vs = [.ref k.h] /\ Sta c H k s /\ Ans c H k (Vbahas.step s .total) Q
theorem liv_count {k : Hs} {s : State} {c : Cs} {H : Hp} (S : Sta c H k s) : k.liv.length = (Vbahas.live s).length := by
 rw [<- S.rel.live.length_eq]
 unfold Hs.liv Hs.fl
 rw [List.filter_map, List.length_map]
 rfl
theorem ok_tell_total (T : Txt K mg c) (D : DefAt K mg "tell_total" s_tell_total ["house"]) (O_living_flights : Ok P w K mg base 1 "living_flights" ["house"] (sp_living_flights c)) (O_told_lateness : Ok P w K mg base 3 "told_lateness" ["house", "flights"] (sp_told_lateness c)) : Ok P w K mg base 4 "tell_total" ["house"] (sp_tell_total c) := by
 refine mkOk D sc_tell_total (fun vs H Q E h => ?_) fun f cdv A outer s H vs Q E hr h => ?_
 ·obtain ⟨k, s, rfl, _⟩ := h; rfl
 ·obtain ⟨k, s, rfl, hS, q⟩ := h
  have nd := sc_tell_total.nd
  refine ⟨_, (bC (ps_set (i := 1) nd rfl (by first | exact Or.inl rfl | exact Or.inr rfl) (pe_fn O_living_flights hr rfl (aC (pv 0) aN)))
   (bO (pRt (pe_op op_cat (pe_lst (aC pe_int (aC (pe_callB cLn (by rfl) T.b_len PySem.boot_len (aC (pv 1) aN)) aN))) (pe_fn O_told_lateness hr rfl (aC (pv 0) (aC (pv 1) aN))))))), ?_⟩
  have e : Vbahas.step s .total = (s, [0, (k.liv.length : Int), (lateL k k.liv).sum, Vbahas.greatest (lateL k k.liv)]) := by
   simp only [Vbahas.step]
   rw [hS.rel.sumLate, hS.rel.greatLate, <- liv_late, liv_count hS]
  rw [e] at q
  refine ⟨_, rfl, k, rfl, hS.at_, hS.nfl, fun l1 H1 hl1 s1 e1 => ?_⟩
  refine ⟨_, rfl, l1, _, rfl, .inl (SqL.of e1), zl2, fun l2 hl2 => ?_⟩
  refine ⟨_, rfl, _, rfl, k, s, l1, k.liv, rfl, (hS.same s1).same (Same.upd hl2), Same.upd hl2 _ _ e1, fun x hx => (List.mem_filter.mp hx).1, Nat.le_trans (liv_len k) hS.nfl, fun l3 H3 hl3 s3 e3 => ?_⟩
  refine ⟨l2, l3, _, _, rfl, rfl, s3 _ _ uS, e3, (by show 2 + 2 <= sizeLine; decide), fun l4 hl4 => ?_⟩
  have := (q.ro hS rfl ((s1.trans (Same.upd hl2)).trans s3)).of (Same.refl _) l4 hl4
  rw [List.length_map]
  exact this
theorem sc_tell_carrier : FSc ["house", "carrier", "flights", "owned", "slot"] ["house", "carrier"] (dSc s_tell_carrier) := ⟨rfl, rfl, rfl, by decide +kernel, rfl, by decide +kernel, by decide +kernel⟩
def sp_tell_carrier (c : Cs) : Sp := fun vs H Q _ => ∃ (k : Hs) (s : State) (cc : Int), vs = [.ref k.h, .int cc] /\ Sta c H k s /\ 0 <= cc /\ Ans c H k (Vbahas.step s (.carrier cc)) Q
theorem livC_late (k : Hs) (cc : Int) : lateL k (k.livC cc) = ((k.fl.filter fun f => !f.gone).filter fun f => decide (f.carrier = cc)).map (late k.sl) := by
 unfold lateL Hs.livC Hs.liv Hs.fl
 rw [List.filter_map, List.filter_map, List.map_map]
 rfl
theorem livC_count {k : Hs} {s : State} {c : Cs} {H : Hp} (S : Sta c H k s) (cc : Int) : (k.livC cc).length = ((Vbahas.live s).filter fun f => decide (f.carrier = cc)).length := by
 rw [<- (S.rel.liveC cc).length_eq]
 unfold Hs.livC Hs.liv Hs.fl
 rw [List.filter_map, List.filter_map, List.length_map]
 rfl
theorem own_ss (k : Hs) (cc : Int) : (k.ss.filter fun x => decide (oI x.2.owner = cc)).length = (k.sl.filter fun x => decide (oI x.owner = cc)).length := by
 unfold Hs.sl
 rw [List.filter_map, List.length_map]
 rfl
theorem ok_tell_carrier (T : Txt K mg c) (D : DefAt K mg "tell_carrier" s_tell_carrier ["house", "carrier"]) (O_flights_of : Ok P w K mg base 2 "flights_of" ["house", "carrier"] (sp_flights_of c)) (O_told_lateness : Ok P w K mg base 3 "told_lateness" ["house", "flights"] (sp_told_lateness c)) (O_carrier_cost : Ok P w K mg base 3 "carrier_cost" ["house", "carrier"] (sp_carrier_cost c)) : Ok P w K mg base 4 "tell_carrier" ["house", "carrier"] (sp_tell_carrier c) := by
 refine mkOk D sc_tell_carrier (fun vs H Q E h => ?_) fun f cdv A outer s H vs Q E hr h => ?_
 ·obtain ⟨k, s, cc, rfl, _⟩ := h; rfl
 ·obtain ⟨k, s, cc, rfl, hS, h0, q⟩ := h
  have nd := sc_tell_carrier.nd
  refine ⟨_, (bC (ps_set (i := 2) nd rfl (by first | exact Or.inl rfl | exact Or.inr rfl) (pe_fn O_flights_of hr rfl (aC (pv 0) (aC (pv 1) aN))))
   (bC (ps_setLc (i := 3) (own := [("slot", 4)]) rfl nd rfl rfl (sw_true rfl rfl rfl rfl) (pi_list (pf_slots T (pv 0))) (blkOk_by (by show blkC ["house", "carrier", "flights", "owned", "slot"] (dSc s_tell_carrier) _ _ = true; decide +kernel)) (fun _ _ _ _ _ => (pg_name (i := 4) nd rfl (Or.inl rfl))) (fun _ _ _ _ _ => (pts_one (tCm op_eq (pf_owner T (pv 4)) (pv 1) (nMk _)))) (fun _ _ _ _ _ => (pv 4)))
   (bO (pRt (pe_op op_cat (pe_op op_cat (pe_lst (aC pe_int (aC (pe_callB cLn (by rfl) T.b_len PySem.boot_len (aC (pv 2) aN)) aN))) (pe_fn O_told_lateness hr rfl (aC (pv 0) (aC (pv 2) aN)))) (pe_lst (aC (pe_fn O_carrier_cost hr rfl (aC (pv 0) (aC (pv 1) aN))) (aC (pe_callB cLn (by rfl) T.b_len PySem.boot_len (aC (pv 3) aN)) aN)))))))), ?_⟩
  have e : Vbahas.step s (.carrier cc) = (s, [0, ((k.livC cc).length : Int), (lateL k (k.livC cc)).sum, Vbahas.greatest (lateL k (k.livC cc)), costL k.sl k.fl cc, ((k.ss.filter fun x => decide (oI x.2.owner = cc)).length : Int)]) := by
   simp only [Vbahas.step]
   rw [hS.rel.sumLateC, hS.rel.greatLateC, <- livC_late, <- livC_count hS, hS.rel.cost, hS.rel.owned h0, own_ss]
  rw [e] at q
  have hclen : (k.livC cc).length <= 60 := by have := liv_len k; have := hS.nfl; have : (k.livC cc).length <= k.liv.length := List.length_filter_le ..; omega
  refine ⟨_, rfl, _, rfl, k, s, cc, rfl, hS, fun l1 H1 hl1 s1 e1 => ?_⟩
  have hS1 := hS.same s1
  refine ⟨_, rfl, k.h, (k.la, k.da, k.g), rfl, hS1.at_.hh, k.la, rfl, ⟨_, SqL.of hS1.at_.hl⟩, fun D hD => ?_⟩
  refine lc_pure (xs := k.ss) (enc := refV) (p := fun x => decide (oI x.2.owner = cc)) (f := refV) (fun H2 s2 => SqL.of (s2 _ _ hS1.at_.hl)) hD (by have := hS.nsl; omega) (fun x H2 N acc hx sm hacc hz hN => ?_) fun H2 sm hD2 => ?_
  ·refine ⟨rfl, _, rfl, x.1, x.2, rfl, (hS1.same sm).at_.hs x hx, _, rfl, rfl, _, rfl, iteI (fun e => ?_) fun e => ?_⟩
   ·refine ⟨_, rfl, acc, hacc, lt1000 hz, hN _ (fun b o e' => by rw [uN (nN e' hD)]; exact sm b o e') ?_⟩
    rw [uS, if_pos (decide_eq_true e)]
   ·exact hN _ sm (by rw [if_neg (by rw [decide_eq_true_eq]; exact e)]; exact hacc)
  ·have hS2 := hS1.same sm
   refine ⟨_, rfl, l1, _, rfl, .inl (SqL.of (sm _ _ e1)), zl2, fun l2 hl2 => ?_⟩
   have s2 := Same.upd (o := .lst [V.int 0, V.int (((k.livC cc).map refV).length : Int)]) hl2
   refine ⟨_, rfl, _, rfl, k, s, l1, k.livC cc, rfl, hS2.same s2, s2 _ _ (sm _ _ e1), fun x hx => (List.mem_filter.mp (List.mem_filter.mp hx).1).1, hclen, fun l3 H3 hl3 s3 e3 => ?_⟩
   refine ⟨l2, l3, _, _, rfl, rfl, s3 _ _ uS, e3, (by show 2 + 2 <= sizeLine; decide), fun l4 hl4 => ?_⟩
   have s4 := Same.upd (o := .lst ([V.int 0, V.int (((k.livC cc).map refV).length : Int)] ++ [.int (lateL k (k.livC cc)).sum, .int (Vbahas.greatest (lateL k (k.livC cc)))])) hl4
   have sAll := (sm.trans s2).trans (s3.trans s4)
   refine ⟨_, rfl, _, rfl, k, s, cc, rfl, hS1.same sAll, fun H5 s5 => ?_⟩
   have eD5 := s5 _ _ (s4 _ _ (s3 _ _ (s2 _ _ hD2)))
   refine ⟨_, rfl, D, _, rfl, .inl (SqL.of eD5), zl2, fun l6 hl6 => ?_⟩
   refine ⟨l4, l6, _, _, rfl, rfl, Same.upd hl6 _ _ (s5 _ _ uS), uS, (by show 4 + 2 <= sizeLine; decide), fun l7 hl7 => ?_⟩
   have := (q.ro hS rfl ((s1.trans (sAll.trans s5)).trans (Same.upd (o := .lst [V.int (costL k.sl k.fl cc), V.int (((k.ss.filter fun x => decide (oI x.2.owner = cc)).map refV).length : Int)]) hl6))).of (Same.refl _) l7 hl7
   rw [List.length_map] at this
   rw [List.length_map, List.length_map]
   exact this
end
end SHP
end
section
namespace SHP
open PySem PySem.Spec PyProof.Rows L2 SH
open Vbahas (Slot Flight State)
def hI (o : Option Flight) : Int := match o with
 | some f => f.id + 1
 | none => 0
def rowL (sl : List Slot) (fl : List Flight) (p : Nat) : List Int := [tOf sl p, oI (oOf sl p) + 1, hI (hold fl ((p : Int) + 1))]
theorem Rel.row {sl : List Slot} {fl : List Flight} {g : Bool} {s : State} (R : SH.Rel sl fl g s) (p : Nat) : Vbahas.slotTold s p = rowL sl fl p := by
 have h1 : Vbahas.holder s p = hold fl ((p : Int) + 1) := by
  cases h : hold fl ((p : Int) + 1) with
  | some f => exact R.holder_some (hold_some h).1 (hold_some h).2
  | none =>
   refine R.holder_none ?_
   rw [<- hold_is, h]; rfl
 unfold Vbahas.slotTold rowL
 rw [h1, timeOf_eq, ownerOf_eq, R.sl]
 cases oOf sl p <;> cases hold fl ((p : Int) + 1) <;> rfl
theorem rows_len (sl : List Slot) (fl : List Flight) : ∀ l : List Nat, (l.flatMap (rowL sl fl)).length = 3 * l.length
 | [] => rfl
 | p :: l => by
  rw [List.flatMap_cons, List.length_append, rows_len sl fl l, List.length_cons]
  show 3 + _ = _
  omega
theorem Sta.setO {c : Cs} {H H1 : Hp} {k : Hs} {s : State} (S : Sta c H k s) {p : Nat} {b : Addr} {x : Slot} {o : Option Int} (hp : k.ss[p]? = some (b, x)) (hb : IsSl c.S H1 b { x with owner := o }) (ho : ∀ y, y ≠ b -> H1 y = H y) (w : Wf (Vbahas.setOwner s p o)) :
  Sta c H1 { k with ss := k.ss.set p (b, { x with owner := o }) } (Vbahas.setOwner s p o) /\ Fra H H1 k { k with ss := k.ss.set p (b, { x with owner := o }) } := by
 refine ⟨⟨S.at_.setS hp hb ho, ?_⟩, Fra.put (foot_slot hp) hb.some ho rfl (foot_setS hp)⟩
 show SH.Rel ((k.ss.set p (b, { x with owner := o })).map (·.2)) k.fl k.g _
 have e2 : (k.ss.set p (b, { x with owner := o })).map (·.2) = ownAt k.sl p o := by
  rw [List.map_set]
  exact (ownAt_set _ _ _ (by rw [List.getElem?_map, hp]; rfl)).symm
 rw [e2]
 refine ⟨?_, S.rel.gv, S.rel.pm, w⟩
 rw [setOwner_eq]
 show ownAt s.slots p o = _
 rw [S.rel.sl]
section
variable {P : Program} {w : World} {K : PySem.W.Frag} {mg : Str -> Option Value} {base : Heap} {c : Cs}
theorem sc_tell_table : FSc ["house", "held", "told", "place", "slot", "holder"] ["house"] (dSc s_tell_table) := ⟨rfl, rfl, rfl, by decide +kernel, rfl, by decide +kernel, by decide +kernel⟩
def sp_tell_table (c : Cs) : Sp := fun vs H Q _ => ∃ (k : Hs) (s : State), vs = [.ref k.h] /\ Sta c H k s /\ Ans c H k (Vbahas.step s .table) Q
theorem ok_tell_table (T : Txt K mg c) (D : DefAt K mg "tell_table" s_tell_table ["house"]) (O_holders : Ok P w K mg base 1 "holders" ["house"] (sp_holders c)) (O_all_places : Ok P w K mg base 1 "all_places" ["house"] (sp_all_places c)) (O_slot_at : Ok P w K mg base 1 "slot_at" ["house", "place"] (sp_slot_at c)) : Ok P w K mg base 2 "tell_table" ["house"] (sp_tell_table c) := by
 refine mkOk D sc_tell_table (fun vs H Q E h => ?_) fun f cdv A outer s H vs Q E hr h => ?_
 ·obtain ⟨k, s, rfl, _⟩ := h; rfl
 ·obtain ⟨k, s, rfl, hS, q⟩ := h
  have nd := sc_tell_table.nd
  have hu := hu_of hr
  refine ⟨_, (bC (ps_set (i := 1) nd rfl (by first | exact Or.inl rfl | exact Or.inr rfl) (pe_fn O_holders hr rfl (aC (pv 0) aN)))
   (bC (ps_set (i := 2) nd rfl (by first | exact Or.inl rfl | exact Or.inr rfl) (pe_lst (aC pe_int (aC (pe_callB cLn (by rfl) T.b_len PySem.boot_len (aC (pf_slots T (pv 0)) aN)) aN))))
   (bC (ps_for PassesOwn.never rfl (pi_list (pe_fn O_all_places hr rfl (aC (pv 0) aN))) (pg_name (i := 3) nd rfl (Or.inl rfl)) (bC (ps_set (i := 4) nd rfl (by first | exact Or.inl rfl | exact Or.inr rfl) (pe_fn O_slot_at hr rfl (aC (pv 0) (aC (pv 3) aN))))
   (bC (ps_set (i := 5) nd rfl (by first | exact Or.inl rfl | exact Or.inr rfl) (pe_ifExp (pt_cmp (pc_din hu (pv 3) (pv 1))) (pe_op op_add (pe_dget hu (pv 1) (pv 3) (fun _ _ => rfl)) pe_int) pe_int))
   (bO (ps_expr (pe_bm PySem.F.plainAttrs_list PySem.F.slot_list_extend PySem.F.type_list_extend mt_extend (pv 2) (aC (pe_lst (aC (pf_time T (pv 4)) (aC (pe_op op_add (pf_owner T (pv 4)) pe_int) (aC (pv 5) aN)))) aN)))))))
   (bO (pRt (pv 2)))))), ?_⟩
  have e : Vbahas.step s .table = (s, 0 :: (k.ss.length : Int) :: (List.range k.ss.length).flatMap (rowL k.sl k.fl)) := by
   have hl : s.slots.length = k.ss.length := by rw [hS.rel.sl, Hs.sl_len]
   simp only [Vbahas.step]
   rw [hl, show Vbahas.slotTold s = rowL k.sl k.fl from funext fun p => Rel.row hS.rel p]
  rw [e] at q
  refine ⟨_, rfl, k, s, rfl, hS, fun d H1 kvs hd s1 ed hheld => ?_⟩
  have hS1 := hS.same s1
  refine ⟨_, rfl, k.h, (k.la, k.da, k.g), rfl, hS1.at_.hh, k.la, _, rfl, .inl (SqL.of hS1.at_.hl), zl2, fun lt hlt => ?_⟩
  rw [List.length_map]
  have s2 : Same H1 (upd H1 lt (.lst [V.int 0, V.int (k.ss.length : Int)])) := Same.upd hlt
  have hS2 := hS1.same s2
  refine ⟨_, rfl, k, rfl, hS2.at_, hS2.nsl, fun lp H4 hlp s4 ep => ⟨lp, rfl, ⟨_, SqL.of ep⟩, ?_⟩⟩
  have hS4 := hS2.same s4
  have et4 : H4 lt = some (.lst [V.int 0, V.int (k.ss.length : Int)]) := s4 _ _ uS
  have ed4 : H4 d = some (.dK kvs) := s4 _ _ (s2 _ _ ed)
  have nlt : ¬ k.foot lt := foot_none hS1 hlt
  have npt : lp ≠ lt := Ne.symm (nN uS hlp)
  have ndt : d ≠ lt := nN ed hlt
  refine for_list (K := K) (a := lp) (xs := (List.range k.ss.length).map plV) (fun i σ H5 => ∃ v3 v4 v5, σ = [some (.ref k.h), some (.ref d), some (.ref lt), v3, v4, v5] /\ (∀ b o, b ≠ lt -> H4 b = some o -> H5 b = some o) /\ H5 lt = some (.lst (([0, (k.ss.length : Int)] ++ (List.range i).flatMap (rowL k.sl k.fl)).map V.int)) /\ ∀ b, H5 b = none -> H4 b = none) ?_ ?_ ?_ ?_
  ·exact ⟨none, none, none, rfl, fun b o _ e => e, et4, fun b h => h⟩
  ·rintro i σ H5 _ ⟨v3, v4, v5, _, ho, _⟩
   exact SqL.of (ho lp _ npt ep)
  ·rintro i v σ H5 hi ⟨v3, v4, v5, rfl, ho, et, hst⟩
   rw [List.getElem?_map] at hi
   obtain ⟨p, hp', rfl⟩ := Option.map_eq_some_iff.mp hi
   obtain ⟨hil, hpi⟩ := List.getElem?_eq_some_iff.mp hp'
   rw [List.getElem_range] at hpi
   subst hpi
   rw [List.length_range] at hil
   have A5 : At c H5 k := hS4.at_.keep fun b o hb e => ho b o (fun z => nlt (by rw [<- z]; exact hb)) e
   obtain ⟨a, x, hax⟩ := Hs.get hil
   refine ⟨_, rfl, _, rfl, k, i, a, x, rfl, A5, hax, ?_⟩
   refine ⟨_, rfl, _, rfl, d, _, rfl, DGet.k (k := Sum.inl ((i : Int) + 1)) (ho d _ ndt ed4), _, rfl, ?_⟩
   have fin : ∀ z : Int, z = hI (hold k.fl ((i : Int) + 1)) -> (∀ l3, H5 l3 = none -> (∀ b o, b ≠ lt -> H4 b = some o -> (upd (upd H5 l3 (.lst [V.int x.time, V.int (oI x.owner + 1), V.int z])) lt (.lst (([0, (k.ss.length : Int)] ++ (List.range i).flatMap (rowL k.sl k.fl)).map V.int ++ [V.int x.time, V.int (oI x.owner + 1), V.int z]))) b = some o) /\
     (upd (upd H5 l3 (.lst [V.int x.time, V.int (oI x.owner + 1), V.int z])) lt (.lst (([0, (k.ss.length : Int)] ++ (List.range i).flatMap (rowL k.sl k.fl)).map V.int ++ [V.int x.time, V.int (oI x.owner + 1), V.int z]))) lt = some (.lst (([0, (k.ss.length : Int)] ++ (List.range (i + 1)).flatMap (rowL k.sl k.fl)).map V.int)) /\
     ∀ b, (upd (upd H5 l3 (.lst [V.int x.time, V.int (oI x.owner + 1), V.int z])) lt (.lst (([0, (k.ss.length : Int)] ++ (List.range i).flatMap (rowL k.sl k.fl)).map V.int ++ [V.int x.time, V.int (oI x.owner + 1), V.int z]))) b = none -> H4 b = none) := fun z hz => by
    refine fun l3 hl3 => ⟨fun b o hb e => ?_, ?_, fun b hb => ?_⟩
    ·rw [uN hb, uN (nN (ho b o hb e) hl3)]
     exact ho b o hb e
    ·rw [uS, List.range_succ, List.flatMap_append]
     have er : (([i] : List Nat).flatMap (rowL k.sl k.fl)) = [x.time, oI x.owner + 1, z] := by
      show rowL k.sl k.fl i ++ [] = _
      rw [List.append_nil]
      unfold rowL
      rw [Hs.tOf_ss hax, Hs.oOf_ss hax, <- hz]
     rw [er, <- List.append_assoc, List.map_append (l₂ := [x.time, oI x.owner + 1, z])]
     rfl
    ·by_cases z1 : b = lt
     ·rw [z1, uS] at hb; cases hb
     ·rw [uN z1] at hb
      by_cases z2 : b = l3
      ·rw [z2, uS] at hb; cases hb
      ·rw [uN z2] at hb; exact hst b hb
   have hlen : (([0, (k.ss.length : Int)] ++ (List.range i).flatMap (rowL k.sl k.fl)).map V.int).length + 3 <= sizeLine := by
    rw [List.length_map, List.length_append, rows_len, List.length_range]
    refine line1000 ?_
    show 2 + 3 * i + 3 <= 1000
    have := hS.nsl
    omega
   cases hh : hold k.fl ((i : Int) + 1) with
   | some f =>
    rw [hheld, hh]
    refine ⟨_, rfl, _, rfl, d, V.int f.id, rfl, (by have := DGet.k (k := Sum.inl ((i : Int) + 1)) (ho d _ ndt ed4); rw [hheld, hh] at this; exact this), _, _, rfl, rfl, ?_⟩
    have F := fin (f.id + 1) (by rw [hh]; rfl)
    refine ⟨_, rfl, .inl ⟨rfl, _, SqL.of et⟩, _, rfl, a, x, rfl, A5.slot hax, _, rfl, a, x, rfl, A5.slot hax, _, _, rfl, rfl, _, rfl, zl3, fun l3 hl3 => ?_⟩
    have n3 : lt ≠ l3 := nN et hl3
    refine ⟨lt, l3, _, _, rfl, rfl, (by rw [uN n3]; exact et), uS, hlen, ?_⟩
    exact ⟨_, _, _, rfl, F l3 hl3⟩
   | none =>
    rw [hheld, hh]
    have F := fin 0 (by rw [hh]; rfl)
    refine ⟨_, rfl, .inl ⟨rfl, _, SqL.of et⟩, _, rfl, a, x, rfl, A5.slot hax, _, rfl, a, x, rfl, A5.slot hax, _, _, rfl, rfl, _, rfl, zl3, fun l3 hl3 => ?_⟩
    have n3 : lt ≠ l3 := nN et hl3
    refine ⟨lt, l3, _, _, rfl, rfl, (by rw [uN n3]; exact et), uS, hlen, ?_⟩
    exact ⟨_, _, _, rfl, F l3 hl3⟩
  ·rintro σ H5 ⟨v3, v4, v5, rfl, ho, et, hst⟩
   rw [List.length_map, List.length_range] at et
   have hsame : Same H H5 := fun b o e => ho b o (fun z => by rw [z, s1.free hlt] at e; cases e) (s4 _ _ (s2 _ _ (s1 _ _ e)))
   refine ⟨_, rfl, ?_⟩
   exact q k H5 lt (hS.same hsame) (Fra.same k hsame) et (s1.free hlt) nlt
theorem sc_release : FSc ["house", "place", "slot"] ["house", "place"] (dSc s_release) := ⟨rfl, rfl, rfl, by decide +kernel, rfl, by decide +kernel, by decide +kernel⟩
def sp_release (c : Cs) : Sp := fun vs H Q _ => ∃ (k : Hs) (s : State) (p : Int), vs = [.ref k.h, .int p] /\ Sta c H k s /\ Vbahas.inRange (.release p) = true /\ Ans c H k (Vbahas.step s (.release p)) Q
theorem ok_release (T : Txt K mg c) (D : DefAt K mg "release" s_release ["house", "place"]) (O_holders : Ok P w K mg base 1 "holders" ["house"] (sp_holders c)) (O_slot_at : Ok P w K mg base 1 "slot_at" ["house", "place"] (sp_slot_at c)) : Ok P w K mg base 2 "release" ["house", "place"] (sp_release c) := by
 refine mkOk D sc_release (fun vs H Q E h => ?_) fun f cdv A outer s H vs Q E hr h => ?_
 ·obtain ⟨k, s, p, rfl, _⟩ := h; rfl
 ·obtain ⟨k, s, p, rfl, hS, hin, q⟩ := h
  have nd := sc_release.nd
  have hu := hu_of hr
  have hA := hS.at_
  have hwf := step_wf hS.rel.wf hin
  simp only [Vbahas.inRange, within_iff] at hin
  obtain ⟨m, rfl⟩ : ∃ m : Nat, p = (m : Int) + 1 := ⟨p.toNat - 1, by omega⟩
  have em : ((m : Int) + 1).toNat - 1 = m := by omega
  refine ⟨_, (bC (ps_if (PW.pt (pw_or (tCm op_gt (pv 1) (pe_callB cLn (by rfl) T.b_len PySem.boot_len (aC (pf_slots T (pv 0)) aN)) (nMk _)) (pw_or1 (tCm op_eq (pf_owner T (pe_fn O_slot_at hr rfl (aC (pv 0) (aC (pv 1) aN)))) (gIn T.c_NOBODY rfl) (nMk _))))) (bO (pRt (pe_lst (aC (gIn T.c_NOT_THERE rfl) aN)))) bN)
   (bC (ps_if (pt_cmp (pc_din hu (pv 1) (pe_fn O_holders hr rfl (aC (pv 0) aN)))) (bO (pRt (pe_lst (aC (gIn T.c_NOT_OPEN rfl) aN)))) bN)
   (bC (ps_set (i := 2) nd rfl (by first | exact Or.inl rfl | exact Or.inr rfl) (pe_fn O_slot_at hr rfl (aC (pv 0) (aC (pv 1) aN))))
   (bC (sf_owner T (pv 2) (gIn T.c_NOBODY rfl) rfl)
   (bO (pRt (pe_lst (aC pe_int aN)))))))), ?_⟩
  refine ⟨_, rfl, _, rfl, k.h, (k.la, k.da, k.g), rfl, hA.hh, k.la, _, rfl, .inl (SqL.of hA.hl), _, _, rfl, rfl, _, rfl, ?_⟩
  rw [List.length_map]
  have none_case : oOf k.sl m = none -> Ans c H k (s, [-5]) Q := fun h => by
   have e : Vbahas.step s (.release ((m : Int) + 1)) = (s, [-5]) := by
    simp only [Vbahas.step, em, ownerOf_eq, hS.rel.sl, h]
   rw [e] at q
   exact q
  by_cases hml : m < k.ss.length
  case neg =>
   rw [decide_eq_true (show (k.ss.length : Int) < (m : Int) + 1 by omega)]
   have := none_case (by unfold oOf; rw [List.getElem?_eq_none (by rw [Hs.sl_len]; omega)])
   exact ⟨zl1, (this.ro hS rfl (Same.refl H)).of (Same.refl H)⟩
  rw [decide_eq_false (show ¬ (k.ss.length : Int) < (m : Int) + 1 by omega)]
  obtain ⟨a, x, hax⟩ := Hs.get hml
  refine ⟨_, rfl, _, rfl, k, m, a, x, rfl, hA, hax, a, x, rfl, hA.slot hax, rfl, _, rfl, iteI (fun e1 => ?_) fun e1 => ?_⟩
  ·have hx0 : x.owner = none := (oI_none (fun c hc => by have := hS.rel.own0 (p := m) (c := c) (by rw [Hs.oOf_ss hax]; exact hc); exact this)).mp e1
   have := none_case (by rw [Hs.oOf_ss hax]; exact hx0)
   exact ⟨zl1, (this.ro hS rfl (Same.refl H)).of (Same.refl H)⟩
  obtain ⟨cc, hcc⟩ : ∃ cc, x.owner = some cc := by
   cases hz : x.owner with
   | none => exact (e1 (by rw [hz]; rfl)).elim
   | some cc => exact ⟨cc, rfl⟩
  have e : Vbahas.step s (.release ((m : Int) + 1)) = if Vbahas.isOpen s m = true then (Vbahas.setOwner s m none, [0]) else (s, [-9]) := by
   have : oOf k.sl m = some cc := by rw [Hs.oOf_ss hax]; exact hcc
   simp only [Vbahas.step, em, ownerOf_eq, hS.rel.sl, this]
  rw [e] at q hwf
  refine ⟨_, rfl, _, rfl, k, s, rfl, hS, fun d H1 kvs hd s1 ed hheld => ⟨d, _, rfl, DGet.k (k := Sum.inl ((m : Int) + 1)) ed, _, rfl, ?_⟩⟩
  rw [held_P hheld, hS.rel.held]
  refine iteN (fun eo => ?_) fun eo => ?_
  ·rw [if_neg (by rw [eo]; decide)] at q
   exact ⟨zl1, (q.ro hS rfl s1).of (Same.refl H1)⟩
  ·rw [if_pos eo] at q hwf
   have hS1 := hS.same s1
   refine ⟨_, rfl, _, rfl, k, m, a, x, rfl, hS1.at_, hax, ?_⟩
   refine ⟨_, rfl, a, x, { x with owner := none }, rfl, hS1.at_.slot hax, rfl, fun H2 ha2 ho2 => ?_⟩
   obtain ⟨S2, F2⟩ := hS1.setO hax (o := none) ha2 ho2 hwf
   exact ⟨zl1, (q.fin S2 ((Fra.same k s1).trans F2)).of (Same.refl H2)⟩
end
end SHP
end
section
namespace SHP
open PySem PySem.Spec PyProof.Rows L2 SH
open Vbahas (Slot Flight State)
def lookV (k : Hs) (i : Int) : V := match k.fs.find? fun x => decide (x.2.id = i) with
 | some x => refV x
 | none => .non
structure Named (k : Hs) (l : List Int) (xs : List (Addr × Flight)) : Prop where
 ids : xs.map (fun x => x.2.id) = l
 mem : ∀ x ∈ xs, x ∈ k.fs
theorem Named.look {c : Cs} {H : Hp} {k : Hs} {s : State} (S : Sta c H k s) {x : Addr × Flight} (hx : x ∈ k.fs) : (k.fs.find? fun y => decide (y.2.id = x.2.id)) = some x := by
 refine find_of_nodup (k := fun (y : Addr × Flight) => y.2.id) ?_ hx rfl
 have := S.rel.ids
 unfold Hs.fl at this
 rw [List.map_map] at this
 exact this
theorem Named.vals {c : Cs} {H : Hp} {k : Hs} {s : State} (S : Sta c H k s) {l : List Int} {xs : List (Addr × Flight)} (N : Named k l xs) : l.map (lookV k) = xs.map refV := by
 rw [<- N.ids, List.map_map]
 apply List.map_congr_left
 intro x hx
 show lookV k x.2.id = refV x
 unfold lookV
 rw [Named.look S (N.mem x hx)]
theorem Named.of : ∀ (l : List Int) (k : Hs), (∀ i ∈ l, ∃ x ∈ k.fs, x.2.id = i) -> ∃ xs, Named k l xs
 | [], k, _ => ⟨[], rfl, fun _ h => (List.not_mem_nil h).elim⟩
 | i :: l, k, h => by
  obtain ⟨xs, N⟩ := Named.of l k fun j hj => h j (List.mem_cons_of_mem _ hj)
  obtain ⟨x, hx, e⟩ := h i List.mem_cons_self
  refine ⟨x :: xs, by rw [List.map_cons, N.ids, e], fun y hy => ?_⟩
  rcases List.mem_cons.mp hy with rfl | hy
  ·exact hx
  ·exact N.mem y hy
theorem Named.len {k : Hs} {l : List Int} {xs : List (Addr × Flight)} (N : Named k l xs) : xs.length = l.length := by rw [<- N.ids, List.length_map]
section
variable {P : Program} {w : World} {K : PySem.W.Frag} {mg : Str -> Option Value} {base : Heap} {c : Cs}
theorem sc_living_numbers : FSc ["house", "flight"] ["house"] (dSc s_living_numbers) := ⟨rfl, rfl, rfl, by decide +kernel, rfl, by decide +kernel, by decide +kernel⟩
def sp_living_numbers (c : Cs) : Sp := fun vs H Q _ => ∃ (k : Hs) (s : State), vs = [.ref k.h] /\ Sta c H k s /\ RetL H (((Vbahas.live s).map (·.id)).map V.int) Q
theorem liv_ids (k : Hs) : k.liv.map (fun x => x.2.id) = (k.fl.filter fun f => !f.gone).map (·.id) := by
 unfold Hs.liv Hs.fl
 rw [List.filter_map, List.map_map]
 rfl
theorem ok_living_numbers (T : Txt K mg c) (D : DefAt K mg "living_numbers" s_living_numbers ["house"]) (O_living_flights : Ok P w K mg base 1 "living_flights" ["house"] (sp_living_flights c)) : Ok P w K mg base 2 "living_numbers" ["house"] (sp_living_numbers c) := by
 refine mkOk D sc_living_numbers (fun vs H Q E h => ?_) fun f cdv A outer s H vs Q E hr h => ?_
 ·obtain ⟨k, s, rfl, _⟩ := h; rfl
 ·obtain ⟨k, s, rfl, hS, q⟩ := h
  have nd := sc_living_numbers.nd
  refine ⟨_, (bO (pRt (pe_callB cr_sorted (by rfl) T.b_sorted (by decide +kernel) (aC (pe_lc (own := [("flight", 1)]) rfl nd (pi_list (pe_fn O_living_flights hr rfl (aC (pv 0) aN))) (blkOk_by (by show blkC ["house", "flight"] (dSc s_living_numbers) _ _ = true; decide +kernel)) (fun _ _ _ _ _ => (pg_name (i := 1) nd rfl (Or.inl rfl))) (fun _ _ _ _ _ => pts_nil) (fun _ _ _ _ _ => (pf_number T (pv 1)))) aN)))), ?_⟩
  have hll : k.liv.length <= 60 := Nat.le_trans (liv_len k) hS.nfl
  refine ⟨_, rfl, k, rfl, hS.at_, hS.nfl, fun l H1 hl s1 el => ⟨l, rfl, ⟨_, SqL.of el⟩, fun D hD => ?_⟩⟩
  refine lc_pure (xs := k.liv) (enc := refV) (p := fun _ => true) (f := fun x => V.int x.2.id) (fun H2 s2 => SqL.of (s2 _ _ el)) hD (by omega) (fun x H2 N acc hx sm hacc hz hN => ?_) fun H2 sm hD2 => ?_
  ·refine ⟨rfl, ⟨_, rfl, x.1, x.2, rfl, ((hS.same s1).same sm).at_.hf x (List.mem_filter.mp hx).1, acc, hacc, lt1000 hz, hN _ (fun b o e' => by rw [uN (nN e' hD)]; exact sm b o e') ?_⟩⟩
   rw [uS]; rfl
  ·rw [List.filter_eq_self.mpr fun _ _ => rfl] at hD2
   have e2 : (k.liv.map fun x => V.int x.2.id) = (k.liv.map fun x => x.2.id).map V.int := by rw [List.map_map]; rfl
   rw [e2] at hD2
   refine ⟨D, k.liv.map fun x => x.2.id, rfl, SqL.of hD2, by rw [List.length_map]; omega, fun ns' p hp hs hp0 => ?_⟩
   rw [liv_ids] at hp
   rw [hS.rel.numbers hp hs]
   exact q.of (s1.trans sm) p hp0
theorem sc_queue : FSc ["house", "numbers", "places", "number"] ["house", "numbers"] (dSc s_queue) := ⟨rfl, rfl, rfl, by decide +kernel, rfl, by decide +kernel, by decide +kernel⟩
def sp_queue (c : Cs) : Sp := fun vs H Q _ => ∃ (k : Hs) (s : State) (n : Addr) (l : List Int), vs = [.ref k.h, .ref n] /\ Sta c H k s /\ H n = some (.lst (l.map V.int)) /\ l.length <= 60 /\ Ans c H k (Vbahas.step s (.queue l)) Q
theorem ok_queue (T : Txt K mg c) (D : DefAt K mg "queue" s_queue ["house", "numbers"]) (O_living_numbers : Ok P w K mg base 2 "living_numbers" ["house"] (sp_living_numbers c)) (O_places_in_turn : Ok P w K mg base 3 "places_in_turn" ["house", "flights"] (sp_places_in_turn c)) : Ok P w K mg base 4 "queue" ["house", "numbers"] (sp_queue c) := by
 refine mkOk D sc_queue (fun vs H Q E h => ?_) fun f cdv A outer s H vs Q E hr h => ?_
 ·obtain ⟨k, s, n, l, rfl, _⟩ := h; rfl
 ·obtain ⟨k, s, n, l, rfl, hS, hn, hlen, q⟩ := h
  have nd := sc_queue.nd
  have hu := hu_of hr
  refine ⟨_, (bC (ps_if (tCm (op_neL hr.units) (pe_callB cr_sorted (by rfl) T.b_sorted (by decide +kernel) (aC (pv 1) aN)) (pe_fn O_living_numbers hr rfl (aC (pv 0) aN)) (nMk _)) (bO (pRt (pe_lst (aC (gIn T.c_NOT_ALL rfl) aN)))) bN)
   (bC (ps_set (i := 2) nd rfl (by first | exact Or.inl rfl | exact Or.inr rfl) (pe_fn O_places_in_turn hr rfl (aC (pv 0) (aC (pe_lc (own := [("number", 3)]) rfl nd (pi_list (pv 1)) (blkOk_by (by show blkC ["house", "numbers", "places", "number"] (dSc s_queue) _ _ = true; decide +kernel)) (fun _ _ _ _ _ => (pg_name (i := 3) nd rfl (Or.inl rfl))) (fun _ _ _ _ _ => pts_nil) (fun _ _ _ _ _ => (pe_dget hu (pf_flights T (pv 0)) (pv 3) (fun _ _ => rfl)))) aN))))
   (bC (ps_if (pt_cmp (pc_isN (pv 2))) (bO (pRt (pe_lst (aC (gIn T.c_NO_SLOT_FOR_IT rfl) aN)))) bN)
   (bO (pRt (pe_op op_cat (pe_lst (aC pe_int (aC (pe_callB cLn (by rfl) T.b_len PySem.boot_len (aC (pv 2) aN)) aN))) (pv 2))))))), ?_⟩
  refine ⟨_, rfl, n, l, rfl, SqL.of hn, by omega, fun a p ha ha' hp => ?_⟩
  have s1 : Same H (upd H p (.lst (a.map V.int))) := Same.upd hp
  have hS1 := hS.same s1
  refine ⟨_, rfl, k, s, rfl, hS1, fun l2 H2 hl2 s2 e2 => ?_⟩
  have sH2 := s1.trans s2
  have hS2 := hS.same sH2
  refine ⟨p, l2, a, (Vbahas.live s).map (·.id), rfl, rfl, s2 _ _ uS, e2, _, rfl, ?_⟩
  have key : a = (Vbahas.live s).map (·.id) ↔ Vbahas.allLive s l = true := hS.rel.queue_ok ha ha' (hS.rel.live.map _).symm ((live_ids s hS.rel.wf).imp fun h => by omega)
  by_cases hall : Vbahas.allLive s l = true
  case neg =>
   rw [decide_eq_false (fun z => hall (key.mp z))]
   have e : Vbahas.step s (.queue l) = (s, [-13]) := by
    simp only [Vbahas.step]
    rw [if_pos (by simpa using hall)]
   rw [e] at q
   exact ⟨zl1, (q.ro hS rfl sH2).of (Same.refl H2)⟩
  rw [decide_eq_true (key.mpr hall)]
  have hperm := (allLive_perm hS.rel.wf l).mp hall
  obtain ⟨xs, N⟩ := Named.of l k fun i hi => by
   obtain ⟨f, hf, e⟩ := List.mem_map.mp (hperm.mem_iff.mp hi)
   obtain ⟨x, hx, ex⟩ := List.mem_map.mp (hS.rel.mem.mpr (List.mem_filter.mp hf).1)
   exact ⟨x, hx, by rw [ex]; exact e⟩
  have hfo : Vbahas.flightsOf s l = some (xs.map (·.2)) := flightsOf_map hS.rel.wf (by rw [List.map_map]; exact N.ids) fun f hf => by
   obtain ⟨x, hx, rfl⟩ := List.mem_map.mp hf
   exact hS.rel.mem.mp (Hs.mem_fl (N.mem x hx))
  refine ⟨_, rfl, _, rfl, n, rfl, ⟨_, SqL.of (sH2 _ _ hn)⟩, fun D hD => ?_⟩
  refine lc_pure (xs := l) (enc := V.int) (p := fun _ => true) (f := lookV k) (fun H3 s3 => SqL.of (s3 _ _ (sH2 _ _ hn))) hD (by omega) (fun i H3 Nn acc hi sm hacc hz hN => ?_) fun H3 sm hD3 => ?_
  ·obtain ⟨x, hx, ei⟩ : ∃ x ∈ xs, x.2.id = i := by
    have : i ∈ xs.map (fun x => x.2.id) := by rw [N.ids]; exact hi
    exact List.mem_map.mp this
   have hS3 := hS2.same sm
   have hlk : lookV k i = refV x := by
    unfold lookV
    rw [<- ei, Named.look hS (N.mem x hx)]
   refine ⟨rfl, ⟨_, rfl, k.h, (k.la, k.da, k.g), rfl, hS3.at_.hh, _, rfl, k.da, V.ref x.1, rfl, (by have := DGet.k (k := Sum.inl i) hS3.at_.hd; rw [dget, <- ei, Named.look hS (N.mem x hx)] at this; rw [<- ei]; exact this), acc, hacc, lt1000 hz, hN _ (fun b o e' => by rw [uN (nN e' hD)]; exact sm b o e') ?_⟩⟩
   rw [uS, hlk]; rfl
  ·rw [List.filter_eq_self.mpr fun _ _ => rfl, N.vals hS] at hD3
   have hS3 := hS2.same sm
   have sH3 := sH2.trans sm
   have hturn := hS.rel.turns (xs.map (·.2))
   refine ⟨k, D, xs, rfl, hS3.at_, hS.nsl, hD3, N.mem, by rw [N.len]; exact hlen, fun hno H4 s4 => ?_, fun r hr' hr1 hr2 => fun le H4 hle s4 ee => ?_⟩
   ·have e : Vbahas.step s (.queue l) = (s, [-7]) := by
     rw [hturn] at hno
     simp only [Vbahas.step]
     rw [if_neg (by rw [hall]; decide), hfo]
     show (match Vbahas.inTurn s (xs.map (·.2)) [] with
      | none => _
      | some x => _) = _
     rw [hno]
    rw [e] at q
    exact ⟨_, rfl, _, rfl, zl1, (q.ro hS rfl (sH3.trans s4)).of (Same.refl H4)⟩
   ·have e : Vbahas.step s (.queue l) = (s, 0 :: (r.length : Int) :: (r.map (·.2)).map pl1) := by
     rw [hturn] at hr'
     simp only [Vbahas.step]
     rw [if_neg (by rw [hall]; decide), hfo]
     show (match Vbahas.inTurn s (xs.map (·.2)) [] with
      | none => _
      | some x => _) = _
     rw [hr', List.map_map]
     rfl
    rw [e] at q
    have hrl : r.length <= 60 := by
     have := congrArg List.length hr1
     rw [List.length_map, List.length_map, N.len] at this
     omega
    refine ⟨_, rfl, _, rfl, ?_⟩
    refine ⟨_, rfl, le, _, rfl, .inl (SqL.of ee), zl2, fun l5 hl5 => ?_⟩
    refine ⟨_, rfl, l5, le, _, _, rfl, rfl, uS, Same.upd hl5 _ _ ee, ?_, fun l6 hl6 => ?_⟩
    ·rw [List.length_map, List.length_map]
     refine line1000 ?_
     show 2 + _ <= 1000
     omega
    ·have := (q.ro hS rfl ((sH3.trans s4).trans (Same.upd (o := .lst [V.int 0, V.int (((r.map (·.2)).map plV).length : Int)]) hl5))).of (Same.refl _) l6 hl6
     rw [List.map_cons, List.map_cons, <- pl_map] at this
     rw [List.length_map, List.length_map] at this ⊢
     exact this
end
end SHP
end
section
namespace L2
open PySem PySem.Spec PyProof.Rows
def MaxOf (ns : List Int) (m : Int) : Prop := (ns = [] /\ m = 0) \/ (m ∈ ns /\ ∀ y ∈ ns, y <= m)
def rMax0 : List V -> List V -> Hp -> VK -> Prop := fun xs zs H Q => ∃ (a : Addr) (ns : List Int), xs = [V.ref a] /\ zs = [V.int 0] /\ H a = some (.lst (ns.map V.int)) /\ ∀ m, MaxOf ns m -> Q (.int m) H
theorem cr_max0 {X : Cx} (hc : X.calm = true) : CallKR X "max" ["default"] rMax0 := by
 intro pins s σ H xs us zs ws Q I r1 r2 h
 obtain ⟨a, ns, e1, e2, ha, q⟩ := h
 exact cr_maxD hc pins s σ H xs us zs ws Q I r1 r2 ⟨a, ns, _, e1, e2, ha, fun hn => q 0 (.inl ⟨hn, rfl⟩), fun m hm hle => q m (.inr ⟨hm, hle⟩)⟩
end L2
namespace SHP
open PySem PySem.Spec PyProof.Rows L2 SH
open Vbahas (Slot Flight State)
theorem pl1_nodup (ms : List Nat) : (ms.map pl1).Nodup ↔ ms.Nodup := by
 unfold List.Nodup
 rw [List.pairwise_map]
 constructor
 ·exact fun h => h.imp fun z e => z (by rw [e])
 ·exact fun h => h.imp fun z e => z (by unfold pl1 at e; omega)
theorem ids_eq {l m : List Flight} {s : State} (w : Wf s) (h : l.map (·.id) = m.map (·.id)) (hl : ∀ f ∈ l, f ∈ s.flights) (hm : ∀ f ∈ m, f ∈ s.flights) : l = m := by
 have h1 := flightsOf_map w h hl
 have h2 := flightsOf_map w rfl hm
 rw [h1] at h2
 exact Option.some.inj h2
def rightL (sl : List Slot) (xs : List (Addr × Flight)) (ms : List Nat) : Bool := decide ms.Nodup && (xs.zip ms).all fun z => decide (z.1.2.ready <= tOf sl z.2)
section
variable {P : Program} {w : World} {K : PySem.W.Frag} {mg : Str -> Option Value} {base : Heap} {c : Cs}
theorem sc_is_right : FSc ["house", "flights", "places", "flight", "place"] ["house", "flights", "places"] (dSc s_is_right) := ⟨rfl, rfl, rfl, by decide +kernel, rfl, by decide +kernel, by decide +kernel⟩
def sp_is_right (c : Cs) : Sp := fun vs H Q _ => ∃ (k : Hs) (a b : Addr) (xs : List (Addr × Flight)) (ms : List Nat), vs = [.ref k.h, .ref a, .ref b] /\ At c H k /\ H a = some (.lst (xs.map refV)) /\ H b = some (.lst (ms.map plV)) /\ xs.length = ms.length /\ xs.length <= 60 /\ (∀ x ∈ xs, x ∈ k.fs) /\ (∀ m ∈ ms, m < k.ss.length) /\
 ∀ H', Same H H' -> Q (.bl (rightL k.sl xs ms)) H'
theorem ok_is_right (T : Txt K mg c) (D : DefAt K mg "is_right" s_is_right ["house", "flights", "places"]) (O_slot_at : Ok P w K mg base 1 "slot_at" ["house", "place"] (sp_slot_at c)) (O_may_have : Ok P w K mg base 1 "may_have" ["flight", "slot"] (sp_may_have c)) : Ok P w K mg base 2 "is_right" ["house", "flights", "places"] (sp_is_right c) := by
 refine mkOk D sc_is_right (fun vs H Q E h => ?_) fun f cdv A outer s H vs Q E hr h => ?_
 ·obtain ⟨k, a, b, xs, ms, rfl, _⟩ := h; rfl
 ·obtain ⟨k, a, b, xs, ms, rfl, hA, ha, hb, hlen, h60, hxs, hms, q⟩ := h
  have nd := sc_is_right.nd
  refine ⟨_, (bC (ps_if (tCm op_ne (pe_callB cr_lenS (by rfl) T.b_len PySem.boot_len (aC (pe_callTy (cr_set rfl) rfl T.b_set (by decide +kernel) (aC (pv 2) aN)) aN)) (pe_callB cLn (by rfl) T.b_len PySem.boot_len (aC (pv 2) aN)) (nMk _)) (bO (pRt pe_bl)) bN)
   (bO (pRt (pe_callB (cr_all rfl) (by rfl) T.b_all (by decide +kernel) (aC (pe_lc (own := [("flight", 3), ("place", 4)]) rfl nd (pi_zip rfl T.b_zip (aC (pv 1) (aC (pv 2) aN))) (blkOk_by (by show blkC ["house", "flights", "places", "flight", "place"] (dSc s_is_right) _ _ = true; decide +kernel)) (fun _ _ _ _ _ => (show PG _ _ (gTup K 2 (gCons (gName 3) (gCons (gName 4) gNil))) from pg_tup rfl (pgs_cons (pg_name (i := 3) nd rfl (Or.inl rfl)) (pgs_cons (pg_name (i := 4) nd rfl (Or.inl rfl)) pgs_nil)))) (fun _ _ _ _ _ => pts_nil) (fun _ _ _ _ _ => (pe_fn O_may_have hr rfl (aC (pv 3) (aC (pe_fn O_slot_at hr rfl (aC (pv 0) (aC (pv 4) aN))) aN))))) aN))))), ?_⟩
  have hb' : H b = some (.lst ((ms.map pl1).map V.int)) := by rw [<- pl_map]; exact hb
  refine ⟨_, rfl, b, ms.map pl1, rfl, SqL.of hb', by rw [List.length_map]; omega, fun p hp => ⟨p, _, _, rfl, uS, _, rfl, b, _, rfl, .inl (SqL.of (Same.upd hp _ _ hb')), rfl, _, rfl, ?_⟩⟩
  rw [List.length_map]
  have hnd : ((dedup (ms.map pl1)).length : Int) = ((ms.map pl1).length : Int) ↔ ms.Nodup := by
   rw [<- pl1_nodup, <- ded_nodup]
   omega
  have s1 : Same H (upd H p (.set (fun k => (dedup (ms.map pl1)).any (· == k)) (dedup (ms.map pl1)).length)) := Same.upd hp
  refine iteNI (fun e => ?_) fun e => ?_
  ·have : rightL k.sl xs ms = false := by
    unfold rightL
    rw [decide_eq_false (fun z => e (hnd.mpr z)), Bool.false_and]
   have := q _ s1
   rw [‹rightL k.sl xs ms = false›] at this
   exact this
  ·have e := hnd.mp e
   refine ⟨_, rfl, _, rfl, a, b, _, _, rfl, SqL.of (s1 _ _ ha), SqL.of (s1 _ _ hb), fun D hD => ?_⟩
   refine lc_zip (xs := xs) (ys := ms) (enc := refV) (enc' := plV) (f := fun x m => V.bl (decide (x.2.ready <= tOf k.sl m))) hlen (fun H2 s2 => SqL.of (s2 _ _ (s1 _ _ ha))) (fun H2 s2 => SqL.of (s2 _ _ (s1 _ _ hb))) hD (by omega) (fun i x m t H2 N acc hx hm sm ht hacc hz hN => ?_) fun H2 sm hD2 => ?_
   ·have sT : Same H2 (upd H2 t (.tup [refV x, plV m])) := Same.upd ht
    have A3 := (hA.same s1).same (sm.trans sT)
    obtain ⟨u, y, huy⟩ := Hs.get (hms m (List.mem_of_getElem? hm))
    have ndt : D ≠ t := nN hacc ht
    refine ⟨t, _, rfl, SqT.of uS, rfl, _, _, rfl, _, _, rfl, rfl, rfl, ?_⟩
    refine ⟨_, rfl, _, rfl, _, rfl, k, m, u, y, rfl, A3, huy, x.1, u, x.2, y, rfl, A3.hf x (hxs x (List.mem_of_getElem? hx)), A3.slot huy, acc, (by rw [uN ndt]; exact hacc), lt1000 hz, hN _ (fun b' o' e' => by rw [uN (nN e' hD)]; exact sT _ _ (sm _ _ e')) ?_⟩
    rw [uS, Hs.tOf_ss huy]
   ·have eb : ((xs.zip ms).map fun z => V.bl (decide (z.1.2.ready <= tOf k.sl z.2))) = ((xs.zip ms).map fun z => decide (z.1.2.ready <= tOf k.sl z.2)).map V.bl := by rw [List.map_map]; rfl
    rw [eb] at hD2
    refine ⟨D, _, rfl, SqL.of hD2, ?_⟩
    have : rightL k.sl xs ms = ((xs.zip ms).map fun z => decide (z.1.2.ready <= tOf k.sl z.2)).all id := by
     unfold rightL
     rw [decide_eq_true e, Bool.true_and, List.all_map]
     rfl
    rw [<- this]
    exact q _ (s1.trans sm)
theorem sc_rival : FSc ["house", "places", "flights", "late", "number", "flight", "place"] ["house", "places"] (dSc s_rival) := ⟨rfl, rfl, rfl, by decide +kernel, rfl, by decide +kernel, by decide +kernel⟩
def sp_rival (c : Cs) : Sp := fun vs H Q _ => ∃ (k : Hs) (s : State) (n : Addr) (l : List Int), vs = [.ref k.h, .ref n] /\ Sta c H k s /\ H n = some (.lst (l.map V.int)) /\ Vbahas.inRange (.rival l) = true /\ Ans c H k (Vbahas.step s (.rival l)) Q
theorem ok_rival (T : Txt K mg c) (D : DefAt K mg "rival" s_rival ["house", "places"]) (O_living_numbers : Ok P w K mg base 2 "living_numbers" ["house"] (sp_living_numbers c)) (O_slot_at : Ok P w K mg base 1 "slot_at" ["house", "place"] (sp_slot_at c)) (O_is_right : Ok P w K mg base 2 "is_right" ["house", "flights", "places"] (sp_is_right c)) (O_sum_and_greatest : Ok P w K mg base 1 "sum_and_greatest" ["late"] (sp_sum_and_greatest c)) : Ok P w K mg base 3 "rival" ["house", "places"] (sp_rival c) := by
 refine mkOk D sc_rival (fun vs H Q E h => ?_) fun f cdv A outer s H vs Q E hr h => ?_
 ·obtain ⟨k, s, n, l, rfl, _⟩ := h; rfl
 ·obtain ⟨k, s, n, l, rfl, hS, hn, hin, q⟩ := h
  have nd := sc_rival.nd
  have hu := hu_of hr
  simp only [Vbahas.inRange, Bool.and_eq_true, decide_eq_true_eq, List.all_eq_true, within_iff] at hin
  obtain ⟨hl60, hlr⟩ := hin
  refine ⟨_, (bC (ps_setLc (i := 2) (own := [("number", 4)]) rfl nd rfl rfl (sw_true rfl rfl rfl rfl) (pi_list (pe_fn O_living_numbers hr rfl (aC (pv 0) aN))) (blkOk_by (by show blkC ["house", "places", "flights", "late", "number", "flight", "place"] (dSc s_rival) _ _ = true; decide +kernel)) (fun _ _ _ _ _ => (pg_name (i := 4) nd rfl (Or.inl rfl))) (fun _ _ _ _ _ => pts_nil) (fun _ _ _ _ _ => (pe_dget hu (pf_flights T (pv 0)) (pv 4) (fun _ _ => rfl))))
   (bC (ps_if (PW.pt (pw_or (tCm op_ne (pe_callB cLn (by rfl) T.b_len PySem.boot_len (aC (pv 1) aN)) (pe_callB cLn (by rfl) T.b_len PySem.boot_len (aC (pv 2) aN)) (nMk _)) (pw_or1 (tCm op_gt (pe_callBK (cr_max0 rfl) rfl T.b_max (by decide +kernel) (aC (pv 1) aN) (pk_cons pe_int pk_nil)) (pe_callB cLn (by rfl) T.b_len PySem.boot_len (aC (pf_slots T (pv 0)) aN)) (nMk _))))) (bO (pRt (pe_lst (aC (gIn T.c_NOT_ALL rfl) aN)))) bN)
   (bC (ps_if (pt_not (pt_val (pe_fn O_is_right hr rfl (aC (pv 0) (aC (pv 2) (aC (pv 1) aN)))))) (bO (pRt (pe_lst (aC pe_int (aC pe_int (aC pe_int (aC pe_int aN))))))) bN)
   (bC (ps_setLc (i := 3) (own := [("flight", 5), ("place", 6)]) rfl nd rfl rfl (sw_true rfl rfl rfl rfl) (pi_zip rfl T.b_zip (aC (pv 2) (aC (pv 1) aN))) (blkOk_by (by show blkC ["house", "places", "flights", "late", "number", "flight", "place"] (dSc s_rival) _ _ = true; decide +kernel)) (fun _ _ _ _ _ => (show PG _ _ (gTup K 2 (gCons (gName 5) (gCons (gName 6) gNil))) from pg_tup rfl (pgs_cons (pg_name (i := 5) nd rfl (Or.inl rfl)) (pgs_cons (pg_name (i := 6) nd rfl (Or.inl rfl)) pgs_nil)))) (fun _ _ _ _ _ => pts_nil) (fun _ _ _ _ _ => (pe_op op_sub (pf_time T (pe_fn O_slot_at hr rfl (aC (pv 0) (aC (pv 6) aN)))) (pf_planned T (pv 5)))))
   (bO (pRt (pe_op op_cat (pe_lst (aC pe_int (aC pe_int aN))) (pe_fn O_sum_and_greatest hr rfl (aC (pv 3) aN))))))))), ?_⟩
  obtain ⟨xs, N⟩ := Named.of ((Vbahas.live s).map (·.id)) k fun i hi => by
   obtain ⟨f, hf, e⟩ := List.mem_map.mp hi
   obtain ⟨x, hx, ex⟩ := List.mem_map.mp (hS.rel.mem.mpr (List.mem_filter.mp hf).1)
   exact ⟨x, hx, by rw [ex]; exact e⟩
  have exs : xs.map (·.2) = Vbahas.live s := ids_eq hS.rel.wf (by rw [List.map_map]; exact N.ids) (fun f hf => by
   obtain ⟨x, hx, rfl⟩ := List.mem_map.mp hf
   exact hS.rel.mem.mp (Hs.mem_fl (N.mem x hx))) fun f hf => (List.mem_filter.mp hf).1
  have hxl : xs.length = (Vbahas.live s).length := by rw [<- exs, List.length_map]
  have hx60 : xs.length <= 60 := by
   rw [hxl, <- liv_count hS]
   exact Nat.le_trans (liv_len k) hS.nfl
  refine ⟨_, rfl, k, s, rfl, hS, fun l1 H1 hl1 s1 e1 => ⟨l1, rfl, ⟨_, SqL.of e1⟩, fun D hD => ?_⟩⟩
  have hS1 := hS.same s1
  refine lc_pure (xs := (Vbahas.live s).map (·.id)) (enc := V.int) (p := fun _ => true) (f := lookV k) (fun H3 s3 => SqL.of (s3 _ _ e1)) hD (by rw [List.length_map]; omega) (fun i H3 Nn acc hi sm hacc hz hN => ?_) fun H3 sm hD3 => ?_
  ·obtain ⟨x, hx, ei⟩ : ∃ x ∈ xs, x.2.id = i := by
    have : i ∈ xs.map (fun x => x.2.id) := by rw [N.ids]; exact hi
    exact List.mem_map.mp this
   have hS3 := hS1.same sm
   have hlk : lookV k i = refV x := by
    unfold lookV
    rw [<- ei, Named.look hS (N.mem x hx)]
   refine ⟨rfl, ⟨_, rfl, k.h, (k.la, k.da, k.g), rfl, hS3.at_.hh, _, rfl, k.da, V.ref x.1, rfl, (by have := DGet.k (k := Sum.inl i) hS3.at_.hd; rw [dget, <- ei, Named.look hS (N.mem x hx)] at this; rw [<- ei]; exact this), acc, hacc, lt1000 hz, hN _ (fun b o e' => by rw [uN (nN e' hD)]; exact sm b o e') ?_⟩⟩
   rw [uS, hlk]; rfl
  rw [List.filter_eq_self.mpr fun _ _ => rfl, N.vals hS] at hD3
  have sH3 := s1.trans sm
  have hS3 := hS.same sH3
  have hn3 := sH3 _ _ hn
  refine ⟨_, rfl, n, _, rfl, .inl (SqL.of hn3), _, rfl, D, _, rfl, .inl (SqL.of hD3), rfl, _, rfl, ?_⟩
  rw [List.length_map, List.length_map]
  refine iteNI (fun ne => ?_) fun ne => ?_
  ·have e : Vbahas.step s (.rival l) = (s, [-13]) := by
    simp only [Vbahas.step]
    rw [if_pos (.inl (by rw [<- hxl]; omega))]
   rw [e] at q
   exact ⟨zl1, (q.ro hS rfl sH3).of (Same.refl H3)⟩
  have elen : l.length = xs.length := by omega
  have esl : s.slots.length = k.ss.length := by rw [hS.rel.sl, Hs.sl_len]
  refine ⟨_, rfl, n, l, rfl, rfl, hn3, fun mx hmx => ?_⟩
  refine ⟨_, rfl, k.h, (k.la, k.da, k.g), rfl, hS3.at_.hh, k.la, _, rfl, .inl (SqL.of hS3.at_.hl), _, _, rfl, rfl, _, rfl, ?_⟩
  rw [List.length_map]
  have hany : ((k.ss.length : Int) < mx) ↔ (l.any fun p => decide ((s.slots.length : Int) < p)) = true := by
   rw [esl, List.any_eq_true]
   constructor
   ·intro h
    rcases hmx with ⟨_, rfl⟩ | ⟨h1, _⟩
    ·omega
    ·exact ⟨mx, h1, decide_eq_true h⟩
   ·rintro ⟨p, hp, h⟩
    have h := of_decide_eq_true h
    rcases hmx with ⟨h1, _⟩ | ⟨_, h2⟩
    ·rw [h1] at hp; cases hp
    ·have := h2 p hp; omega
  refine iteD (fun hgt => ?_) fun hgt => ?_
  ·have e : Vbahas.step s (.rival l) = (s, [-13]) := by
    simp only [Vbahas.step]
    rw [if_pos (.inr (hany.mp hgt))]
   rw [e] at q
   exact ⟨zl1, (q.ro hS rfl sH3).of (Same.refl H3)⟩
  have hno : ¬ (l.length ≠ (Vbahas.live s).length \/ (l.any fun p => decide ((s.slots.length : Int) < p)) = true) := by
   rintro (z | z)
   ·exact z (by rw [<- hxl]; exact elen)
   ·exact hgt (hany.mpr z)
  obtain ⟨ms, hms⟩ : ∃ ms : List Nat, ms = l.map fun p => p.toNat - 1 := ⟨_, rfl⟩
  have hlm : l = ms.map pl1 := by
   rw [hms, List.map_map]
   refine Eq.symm ((List.map_congr_left fun p hp => ?_).trans (List.map_id l))
   show pl1 (p.toNat - 1) = p
   have := hlr p hp
   unfold pl1
   omega
  have hmlt : ∀ m ∈ ms, m < k.ss.length := fun m hm => by
   have hp : pl1 m ∈ l := by rw [hlm]; exact List.mem_map_of_mem hm
   have : ¬ (k.ss.length : Int) < pl1 m := fun z => hgt (hany.mpr (List.any_eq_true.mpr ⟨_, hp, by rw [esl]; exact decide_eq_true z⟩))
   unfold pl1 at this
   omega
  have hml : xs.length = ms.length := by rw [<- elen, hlm, List.length_map]
  have hnV : H3 n = some (.lst (ms.map plV)) := by rw [pl_map, <- hlm]; exact hn3
  have ezip : (Vbahas.live s).zip ms = (xs.zip ms).map fun z => (z.1.2, z.2) := by
   rw [<- exs, List.zip_map_left]
   rfl
  have hfit : ∀ z ∈ xs.zip ms, Vbahas.fitsAt s z.1.2 z.2 = decide (z.1.2.ready <= tOf k.sl z.2) := fun z hz => by
   have : z.2 ∈ ms := (List.of_mem_zip hz).2
   have := hmlt _ this
   unfold Vbahas.fitsAt
   rw [decide_eq_true (show z.2 < s.slots.length by rw [esl]; exact this), Bool.true_and, timeOf_eq, hS.rel.sl]
  have hright : (Vbahas.noneTwice l = true /\ (((Vbahas.live s).zip ms).all fun y => Vbahas.fitsAt s y.1 y.2) = true) ↔ rightL k.sl xs ms = true := by
   unfold rightL
   rw [Bool.and_eq_true, decide_eq_true_eq, twice_nodup, hlm, pl1_nodup, ezip, List.all_map]
   refine and_congr Iff.rfl ?_
   rw [List.all_eq_true, List.all_eq_true]
   exact ⟨fun h z hz => by rw [<- hfit z hz]; exact h z hz, fun h z hz => by show Vbahas.fitsAt s z.1.2 z.2 = true; rw [hfit z hz]; exact h z hz⟩
  refine ⟨_, rfl, _, rfl, _, rfl, k, D, n, xs, ms, rfl, hS3.at_, hD3, hnV, hml, hx60, N.mem, hmlt, fun H4 s4 => ⟨_, rfl, ?_⟩⟩
  have sH4 := sH3.trans s4
  have hS4 := hS.same sH4
  have q0 : Ans c H k (if Vbahas.noneTwice l = true /\ (((Vbahas.live s).zip ms).all fun y => Vbahas.fitsAt s y.1 y.2) = true then (s, [0, 1, Vbahas.sum (((Vbahas.live s).zip ms).map fun y => Vbahas.timeOf s y.2 - y.1.sched), Vbahas.greatest (((Vbahas.live s).zip ms).map fun y => Vbahas.timeOf s y.2 - y.1.sched)]) else (s, [0, 0, 0, 0])) Q := by
   have e : Vbahas.step s (.rival l) = _ := rfl
   simp only [Vbahas.step] at q
   rw [if_neg hno, <- hms] at q
   exact q
  refine iteN (fun er => ?_) fun er => ?_
  ·rw [if_neg (fun z => by rw [hright.mp z] at er; cases er)] at q0
   exact ⟨zl4, (q0.ro hS rfl sH4).of (Same.refl H4)⟩
  rw [if_pos (hright.mpr er)] at q0
  refine ⟨_, rfl, _, rfl, D, n, _, _, rfl, SqL.of (s4 _ _ hD3), SqL.of (s4 _ _ hnV), fun D2 hD2 => ?_⟩
  refine lc_zip (xs := xs) (ys := ms) (enc := refV) (enc' := plV) (f := fun x m => V.int (tOf k.sl m - x.2.sched)) hml (fun H5 s5 => SqL.of (s5 _ _ (s4 _ _ hD3))) (fun H5 s5 => SqL.of (s5 _ _ (s4 _ _ hnV))) hD2 (by omega) (fun i x m t H5 Nn acc hx hm sm5 ht hacc hz hN => ?_) fun H5 sm5 hD5 => ?_
  ·have sT : Same H5 (upd H5 t (.tup [refV x, plV m])) := Same.upd ht
   have A3 := (hS4.same (sm5.trans sT)).at_
   obtain ⟨u, y, huy⟩ := Hs.get (hmlt m (List.mem_of_getElem? hm))
   have ndt : D2 ≠ t := nN hacc ht
   refine ⟨t, _, rfl, SqT.of uS, rfl, _, _, rfl, _, _, rfl, rfl, rfl, ?_⟩
   refine ⟨_, rfl, _, rfl, k, m, u, y, rfl, A3, huy, u, y, rfl, A3.slot huy, _, rfl, x.1, x.2, rfl, A3.hf x (N.mem x (List.mem_of_getElem? hx)), _, _, rfl, rfl, acc, (by rw [uN ndt]; exact hacc), lt1000 hz, hN _ (fun b' o' e' => by rw [uN (nN e' hD2)]; exact sT _ _ (sm5 _ _ e')) ?_⟩
   rw [uS, Hs.tOf_ss huy]
  ·have eb : ((xs.zip ms).map fun z => V.int (tOf k.sl z.2 - z.1.2.sched)) = ((xs.zip ms).map fun z => tOf k.sl z.2 - z.1.2.sched).map V.int := by rw [List.map_map]; rfl
   rw [eb] at hD5
   have ed : (((Vbahas.live s).zip ms).map fun y => Vbahas.timeOf s y.2 - y.1.sched) = (xs.zip ms).map fun z => tOf k.sl z.2 - z.1.2.sched := by
    rw [ezip, List.map_map]
    apply List.map_congr_left
    intro z _
    show Vbahas.timeOf s z.2 - z.1.2.sched = _
    rw [timeOf_eq, hS.rel.sl]
   rw [ed, sum_eq] at q0
   refine ⟨zl2, fun l6 hl6 => ?_⟩
   have s6 : Same H5 (upd H5 l6 (.lst [V.int 0, V.int 1])) := Same.upd hl6
   refine ⟨_, rfl, D2, _, rfl, s6 _ _ hD5, fun v hv => ?_, fun l7 H7 hl7 s7 e7 => ?_⟩
   ·obtain ⟨z, hz, rfl⟩ := List.mem_map.mp hv
    have h1 := hS.rel.fok (Hs.mem_fl (N.mem z.1 (List.of_mem_zip hz).1))
    have h2 : z.1.2.ready <= tOf k.sl z.2 := by
     unfold rightL at er
     rw [Bool.and_eq_true, List.all_eq_true] at er
     exact of_decide_eq_true (er.2 z hz)
    have := h1.s1
    omega
   ·refine ⟨l6, l7, _, _, rfl, rfl, s7 _ _ uS, e7, (by show 2 + 2 <= sizeLine; decide), fun l8 hl8 => ?_⟩
    exact (q0.ro hS rfl ((sH4.trans sm5).trans (s6.trans s7))).of (Same.refl _) l8 hl8
end
end SHP
end
section
namespace SHP
open PySem PySem.Spec PyProof.Rows L2 SH
open Vbahas (Slot Flight State)
def pT (k : Hs) (f : Flight) : Int := tOf k.sl (f.place.getD 0)
def savd (k : Hs) (f g : Flight) : Int := f.weight * (pT k f - pT k g)
def losL (k : Hs) (f g h u : Flight) : Bool := decide (savd k f h + savd k g u < 0) || (decide (savd k h f + savd k u g < 0) || (decide (savd k f h + savd k g u = 0) && decide (savd k h f + savd k u g = 0)))
def mayL (k : Hs) (f g : Flight) : Bool := decide (f.ready <= pT k g) && decide (g.ready <= pT k f)
def seatL (f : Flight) : Bool := decide (f.place = none)
def refL (k : Hs) (f g h u : Flight) : Int :=
 if (seatL f || (seatL g || (seatL h || seatL u))) = true then -9
 else if ¬ (f.carrier = g.carrier /\ f.id ≠ g.id) \/ ¬ (h.carrier = u.carrier /\ h.id ≠ u.id) \/ f.carrier = h.carrier then -10
 else if (mayL k f h && mayL k g u) = false then -11
 else if losL k f g h u = true then -12 else 0
theorem pT_at {k : Hs} {f : Flight} {p : Nat} {a : Addr} {y : Slot} (hp : f.place = some p) (hy : k.ss[p]? = some (a, y)) : pT k f = y.time := by
 unfold pT
 rw [hp]
 exact Hs.tOf_ss hy
theorem seat_of {f : Flight} (h : seatL f = false) : ∃ p, f.place = some p := by
 unfold seatL at h
 cases hp : f.place with
 | none => rw [hp] at h; cases h
 | some p => exact ⟨p, rfl⟩
section
variable {P : Program} {w : World} {K : PySem.W.Frag} {mg : Str -> Option Value} {base : Heap} {c : Cs}
theorem sc_saved : FSc ["house", "flight", "other"] ["house", "flight", "other"] (dSc s_saved) := ⟨rfl, rfl, rfl, by decide +kernel, rfl, by decide +kernel, by decide +kernel⟩
def sp_saved (c : Cs) : Sp := fun vs H Q _ => ∃ (k : Hs) (s : State) (x y : Addr × Flight), vs = [.ref k.h, .ref x.1, .ref y.1] /\ Sta c H k s /\ x ∈ k.fs /\ y ∈ k.fs /\ seatL x.2 = false /\ seatL y.2 = false /\ Q (.int (savd k x.2 y.2)) H
theorem ok_saved (T : Txt K mg c) (D : DefAt K mg "saved" s_saved ["house", "flight", "other"]) (O_slot_at : Ok P w K mg base 1 "slot_at" ["house", "place"] (sp_slot_at c)) : Ok P w K mg base 2 "saved" ["house", "flight", "other"] (sp_saved c) := by
 refine mkOk D sc_saved (fun vs H Q E h => ?_) fun f cdv A outer s H vs Q E hr h => ?_
 ·obtain ⟨k, s, x, y, rfl, _⟩ := h; rfl
 ·obtain ⟨k, s, x, y, rfl, hS, hx, hy, sx, sy, q⟩ := h
  refine ⟨_, (bO (pRt (pe_op op_mul (pf_weight T (pv 1)) (pe_op op_sub (pf_time T (pe_fn O_slot_at hr rfl (aC (pv 0) (aC (pf_place T (pv 1)) aN)))) (pf_time T (pe_fn O_slot_at hr rfl (aC (pv 0) (aC (pf_place T (pv 2)) aN)))))))), ?_⟩
  obtain ⟨p, hp⟩ := seat_of sx
  obtain ⟨r, hr'⟩ := seat_of sy
  obtain ⟨a, u, hau⟩ := hS.place hx hp
  obtain ⟨b, v, hbv⟩ := hS.place hy hr'
  have hA := hS.at_
  have hfo := hS.rel.fok (Hs.mem_fl hx)
  have e : savd k x.2 y.2 = x.2.weight * (u.time - v.time) := by
   unfold savd
   rw [pT_at hp hau, pT_at hr' hbv]
  rw [e] at q
  exact ⟨_, rfl, x.1, x.2, rfl, hA.hf x hx, _, rfl, _, rfl, x.1, x.2, rfl, hA.hf x hx, k, p, a, u, (by show [V.ref k.h, V.int (pI x.2.place)] ++ [] = _; rw [hp]; rfl), hA, hau, a, u, rfl, hA.slot hau, _, rfl, _, rfl, y.1, y.2, rfl, hA.hf y hy, k, r, b, v, (by show [V.ref k.h, V.int (pI y.2.place)] ++ [] = _; rw [hr']; rfl), hA, hbv, b, v, rfl, hA.slot hbv, _, _, rfl, rfl, _, _, rfl, rfl, .inl ⟨by have := hfo.w0; omega, by have := hfo.w1; omega⟩, q⟩
theorem sc_somebody_loses : FSc ["house", "flights", "first", "second"] ["house", "flights"] (dSc s_somebody_loses) := ⟨rfl, rfl, rfl, by decide +kernel, rfl, by decide +kernel, by decide +kernel⟩
def sp_somebody_loses (c : Cs) : Sp := fun vs H Q _ => ∃ (k : Hs) (s : State) (l : Addr) (x0 x1 x2 x3 : Addr × Flight), vs = [.ref k.h, .ref l] /\ Sta c H k s /\ H l = some (.lst [refV x0, refV x1, refV x2, refV x3]) /\ x0 ∈ k.fs /\ x1 ∈ k.fs /\ x2 ∈ k.fs /\ x3 ∈ k.fs /\ seatL x0.2 = false /\ seatL x1.2 = false /\ seatL x2.2 = false /\ seatL x3.2 = false /\ Q (.bl (losL k x0.2 x1.2 x2.2 x3.2)) H
theorem ok_somebody_loses (T : Txt K mg c) (D : DefAt K mg "somebody_loses" s_somebody_loses ["house", "flights"]) (O_saved : Ok P w K mg base 2 "saved" ["house", "flight", "other"] (sp_saved c)) : Ok P w K mg base 3 "somebody_loses" ["house", "flights"] (sp_somebody_loses c) := by
 refine mkOk D sc_somebody_loses (fun vs H Q E h => ?_) fun f cdv A outer s H vs Q E hr h => ?_
 ·obtain ⟨k, s, l, x0, x1, x2, x3, rfl, _⟩ := h; rfl
 ·obtain ⟨k, s, l, x0, x1, x2, x3, rfl, hS, hl, m0, m1, m2, m3, t0, t1, t2, t3, q⟩ := h
  have nd := sc_somebody_loses.nd
  refine ⟨_, (bC (ps_set (i := 2) nd rfl (by first | exact Or.inl rfl | exact Or.inr rfl) (pe_op op_add (pe_fn O_saved hr rfl (aC (pv 0) (aC (pe_ix iXl (pv 1) pe_int (fun _ _ => rfl)) (aC (pe_ix iXl (pv 1) pe_int (fun _ _ => rfl)) aN)))) (pe_fn O_saved hr rfl (aC (pv 0) (aC (pe_ix iXl (pv 1) pe_int (fun _ _ => rfl)) (aC (pe_ix iXl (pv 1) pe_int (fun _ _ => rfl)) aN))))))
   (bC (ps_set (i := 3) nd rfl (by first | exact Or.inl rfl | exact Or.inr rfl) (pe_op op_add (pe_fn O_saved hr rfl (aC (pv 0) (aC (pe_ix iXl (pv 1) pe_int (fun _ _ => rfl)) (aC (pe_ix iXl (pv 1) pe_int (fun _ _ => rfl)) aN)))) (pe_fn O_saved hr rfl (aC (pv 0) (aC (pe_ix iXl (pv 1) pe_int (fun _ _ => rfl)) (aC (pe_ix iXl (pv 1) pe_int (fun _ _ => rfl)) aN))))))
   (bO (pRt (pe_or (pe_cmpR op_lt (pv 2) pe_int (nMk _)) (pe_or (pe_cmpR op_lt (pv 3) pe_int (nMk _)) (pe_one (pe_and (pe_cmpR op_eq (pv 2) pe_int (nMk _)) (pe_one (pe_cmpR op_eq (pv 3) pe_int (nMk _))))))))))), ?_⟩
  have i0 := at_of (xs := [refV x0, refV x1, refV x2, refV x3]) (z := 0) (j := 0) (v := refV x0) rfl rfl
  have i1 := at_of (xs := [refV x0, refV x1, refV x2, refV x3]) (z := 1) (j := 1) (v := refV x1) rfl rfl
  have i2 := at_of (xs := [refV x0, refV x1, refV x2, refV x3]) (z := 2) (j := 2) (v := refV x2) rfl rfl
  have i3 := at_of (xs := [refV x0, refV x1, refV x2, refV x3]) (z := 3) (j := 3) (v := refV x3) rfl rfl
  have Lq := SqL.of (K := K) hl
  refine ⟨_, rfl, _, rfl, l, _, _, _, rfl, rfl, Lq, i0, _, rfl, l, _, _, _, rfl, rfl, Lq, i2, k, s, x0, x2, rfl, hS, m0, m2, t0, t2, _, rfl, _, rfl, l, _, _, _, rfl, rfl, Lq, i1, _, rfl, l, _, _, _, rfl, rfl, Lq, i3, k, s, x1, x3, rfl, hS, m1, m3, t1, t3, _, _, rfl, rfl, ?_⟩
  refine ⟨_, rfl, _, rfl, l, _, _, _, rfl, rfl, Lq, i2, _, rfl, l, _, _, _, rfl, rfl, Lq, i0, k, s, x2, x0, rfl, hS, m2, m0, t2, t0, _, rfl, _, rfl, l, _, _, _, rfl, rfl, Lq, i3, _, rfl, l, _, _, _, rfl, rfl, Lq, i1, k, s, x3, x1, rfl, hS, m3, m1, t3, t1, _, _, rfl, rfl, ?_⟩
  unfold losL at q
  refine ⟨_, rfl, _, _, rfl, rfl, _, rfl, ?_⟩
  by_cases e1 : savd k x0.2 x2.2 + savd k x1.2 x3.2 < 0
  ·rw [decide_eq_true e1] at q ⊢
   exact q
  rw [decide_eq_false e1] at q ⊢
  refine ⟨_, rfl, _, _, rfl, rfl, _, rfl, ?_⟩
  by_cases e2 : savd k x2.2 x0.2 + savd k x3.2 x1.2 < 0
  ·rw [decide_eq_true e2] at q ⊢
   exact q
  rw [decide_eq_false e2] at q ⊢
  refine ⟨_, rfl, rfl, _, rfl, iteI (fun e3 => ?_) fun e3 => ?_⟩
  ·rw [decide_eq_true e3] at q
   refine ⟨_, rfl, rfl, ?_⟩
   rw [dec_int']
   exact q
  ·rw [decide_eq_false e3] at q
   exact q
theorem sc_trade_refusal : FSc ["house", "flights", "flight"] ["house", "flights"] (dSc s_trade_refusal) := ⟨rfl, rfl, rfl, by decide +kernel, rfl, by decide +kernel, by decide +kernel⟩
def sp_trade_refusal (c : Cs) : Sp := fun vs H Q _ => ∃ (k : Hs) (s : State) (l : Addr) (x0 x1 x2 x3 : Addr × Flight), vs = [.ref k.h, .ref l] /\ Sta c H k s /\ H l = some (.lst [refV x0, refV x1, refV x2, refV x3]) /\ x0 ∈ k.fs /\ x1 ∈ k.fs /\ x2 ∈ k.fs /\ x3 ∈ k.fs /\ ∀ H', Same H H' -> Q (.int (refL k x0.2 x1.2 x2.2 x3.2)) H'
theorem ok_trade_refusal (T : Txt K mg c) (D : DefAt K mg "trade_refusal" s_trade_refusal ["house", "flights"]) (O_somebody_loses : Ok P w K mg base 3 "somebody_loses" ["house", "flights"] (sp_somebody_loses c)) (O_may_change : Ok P w K mg base 2 "may_change" ["house", "first", "second"] (sp_may_change c))
  (O_two_of_one_carrier : Ok P w K mg base 1 "two_of_one_carrier" ["first", "second"] (sp_two_of_one_carrier c)) : Ok P w K mg base 4 "trade_refusal" ["house", "flights"] (sp_trade_refusal c) := by
 refine mkOk D sc_trade_refusal (fun vs H Q E h => ?_) fun f cdv A outer s H vs Q E hr h => ?_
 ·obtain ⟨k, s, l, x0, x1, x2, x3, rfl, _⟩ := h; rfl
 ·obtain ⟨k, s, l, x0, x1, x2, x3, rfl, hS, hl, m0, m1, m2, m3, q⟩ := h
  have nd := sc_trade_refusal.nd
  refine ⟨_, (bC (ps_if (pt_val (pe_callB (cr_any rfl) (by rfl) T.b_any (by decide +kernel) (aC (pe_lc (own := [("flight", 2)]) rfl nd (pi_list (pv 1)) (blkOk_by (by show blkC ["house", "flights", "flight"] (dSc s_trade_refusal) _ _ = true; decide +kernel)) (fun _ _ _ _ _ => (pg_name (i := 2) nd rfl (Or.inl rfl))) (fun _ _ _ _ _ => pts_nil) (fun _ _ _ _ _ => (pe_cmpR op_eq (pf_place T (pv 2)) (gIn T.c_NO_PLACE rfl) (nMk _)))) aN))) (bO (pRt (gIn T.c_CANCELLED_OR_WITHOUT_SLOT rfl))) bN)
   (bC (ps_if (PW.pt (pw_or (pt_not (pt_val (pe_fn O_two_of_one_carrier hr rfl (aC (pe_ix iXl (pv 1) pe_int (fun _ _ => rfl)) (aC (pe_ix iXl (pv 1) pe_int (fun _ _ => rfl)) aN))))) (pw_or1 (pt_not (pt_val (pe_fn O_two_of_one_carrier hr rfl (aC (pe_ix iXl (pv 1) pe_int (fun _ _ => rfl)) (aC (pe_ix iXl (pv 1) pe_int (fun _ _ => rfl)) aN)))))))) (bO (pRt (gIn T.c_DO_NOT_FIT rfl))) bN)
   (bC (ps_if (tCm op_eq (pf_carrier T (pe_ix iXl (pv 1) pe_int (fun _ _ => rfl))) (pf_carrier T (pe_ix iXl (pv 1) pe_int (fun _ _ => rfl))) (nMk _)) (bO (pRt (gIn T.c_DO_NOT_FIT rfl))) bN)
   (bC (ps_if (PW.pt (pw_or (pt_not (pt_val (pe_fn O_may_change hr rfl (aC (pv 0) (aC (pe_ix iXl (pv 1) pe_int (fun _ _ => rfl)) (aC (pe_ix iXl (pv 1) pe_int (fun _ _ => rfl)) aN)))))) (pw_or1 (pt_not (pt_val (pe_fn O_may_change hr rfl (aC (pv 0) (aC (pe_ix iXl (pv 1) pe_int (fun _ _ => rfl)) (aC (pe_ix iXl (pv 1) pe_int (fun _ _ => rfl)) aN))))))))) (bO (pRt (gIn T.c_MAY_NOT_HAVE rfl))) bN)
   (bC (ps_if (pt_val (pe_fn O_somebody_loses hr rfl (aC (pv 0) (aC (pv 1) aN)))) (bO (pRt (gIn T.c_SOMEBODY_LOSES rfl))) bN)
   (bO (pRt pe_int))))))), ?_⟩
  have i0 := at_of (xs := [refV x0, refV x1, refV x2, refV x3]) (z := 0) (j := 0) (v := refV x0) rfl rfl
  have i1 := at_of (xs := [refV x0, refV x1, refV x2, refV x3]) (z := 1) (j := 1) (v := refV x1) rfl rfl
  have i2 := at_of (xs := [refV x0, refV x1, refV x2, refV x3]) (z := 2) (j := 2) (v := refV x2) rfl rfl
  have i3 := at_of (xs := [refV x0, refV x1, refV x2, refV x3]) (z := 3) (j := 3) (v := refV x3) rfl rfl
  refine ⟨_, rfl, l, rfl, ⟨_, SqL.of hl⟩, fun D hD => ?_⟩
  have hmem : ∀ x ∈ [x0, x1, x2, x3], x ∈ k.fs := fun x hx => by
   simp only [List.mem_cons, List.not_mem_nil, or_false] at hx
   rcases hx with rfl | rfl | rfl | rfl <;> assumption
  refine lc_pure (xs := [x0, x1, x2, x3]) (enc := refV) (p := fun _ => true) (f := fun x => V.bl (seatL x.2)) (fun H2 s2 => SqL.of (s2 _ _ hl)) hD (by show 4 <= 1000; decide) (fun x H2 N acc hx sm hacc hz hN => ?_) fun H2 sm hD2 => ?_
  ·refine ⟨rfl, ⟨_, rfl, x.1, x.2, rfl, (hS.same sm).at_.hf x (hmem x hx), rfl, acc, hacc, lt1000 hz, hN _ (fun b o e' => by rw [uN (nN e' hD)]; exact sm b o e') ?_⟩⟩
   rw [uS, dec_int']
   have : decide (pI x.2.place = 0) = seatL x.2 := decide_eq_decide.mpr pI_zero
   rw [this]; rfl
  have hS2 := hS.same sm
  have hA2 := hS2.at_
  have Lq := SqL.of (K := K) (sm _ _ hl)
  have q2 := q H2 sm
  unfold refL at q2
  refine ⟨D, [seatL x0.2, seatL x1.2, seatL x2.2, seatL x3.2], rfl, SqL.of hD2, _, rfl, ?_⟩
  have eany : ([seatL x0.2, seatL x1.2, seatL x2.2, seatL x3.2].any id) = (seatL x0.2 || (seatL x1.2 || (seatL x2.2 || seatL x3.2))) := by simp
  rw [eany]
  refine iteB (fun e9 => ?_) fun e9 => ?_
  ·rw [if_pos e9] at q2
   exact q2
  rw [if_neg (by rw [e9]; decide)] at q2
  simp only [Bool.or_eq_false_iff] at e9
  obtain ⟨t0, t1, t2, t3⟩ := e9
  have f0 := hA2.hf x0 m0
  have f1 := hA2.hf x1 m1
  have f2 := hA2.hf x2 m2
  have f3 := hA2.hf x3 m3
  refine ⟨_, rfl, l, _, _, _, rfl, rfl, Lq, i0, _, rfl, l, _, _, _, rfl, rfl, Lq, i1, x0.1, x1.1, x0.2, x1.2, rfl, f0, f1, _, rfl, ?_⟩
  by_cases e01 : x0.2.carrier = x1.2.carrier /\ x0.2.id ≠ x1.2.id
  case neg =>
   rw [decide_eq_false e01]
   rw [if_pos (.inl e01)] at q2
   exact q2
  rw [decide_eq_true e01]
  refine ⟨_, rfl, l, _, _, _, rfl, rfl, Lq, i2, _, rfl, l, _, _, _, rfl, rfl, Lq, i3, x2.1, x3.1, x2.2, x3.2, rfl, f2, f3, _, rfl, ?_⟩
  by_cases e23 : x2.2.carrier = x3.2.carrier /\ x2.2.id ≠ x3.2.id
  case neg =>
   rw [decide_eq_false e23]
   rw [if_pos (.inr (.inl e23))] at q2
   exact q2
  rw [decide_eq_true e23]
  refine ⟨_, rfl, l, _, _, _, rfl, rfl, Lq, i0, x0.1, x0.2, rfl, f0, _, rfl, l, _, _, _, rfl, rfl, Lq, i2, x2.1, x2.2, rfl, f2, rfl, _, rfl, iteI (fun e02 => ?_) fun e02 => ?_⟩
  ·rw [if_pos (.inr (.inr e02))] at q2
   exact q2
  rw [if_neg (by rintro (z | z | z); exact z e01; exact z e23; exact e02 z)] at q2
  obtain ⟨p0, hp0⟩ := seat_of t0
  obtain ⟨p1, hp1⟩ := seat_of t1
  obtain ⟨p2, hp2⟩ := seat_of t2
  obtain ⟨p3, hp3⟩ := seat_of t3
  obtain ⟨a0, y0, hy0⟩ := hS.place m0 hp0
  obtain ⟨a1, y1, hy1⟩ := hS.place m1 hp1
  obtain ⟨a2, y2, hy2⟩ := hS.place m2 hp2
  obtain ⟨a3, y3, hy3⟩ := hS.place m3 hp3
  have em02 : mayL k x0.2 x2.2 = (decide (x0.2.ready <= y2.time) && decide (x2.2.ready <= y0.time)) := by unfold mayL; rw [pT_at hp0 hy0, pT_at hp2 hy2]
  have em13 : mayL k x1.2 x3.2 = (decide (x1.2.ready <= y3.time) && decide (x3.2.ready <= y1.time)) := by unfold mayL; rw [pT_at hp1 hy1, pT_at hp3 hy3]
  refine ⟨_, rfl, _, rfl, l, _, _, _, rfl, rfl, Lq, i0, _, rfl, l, _, _, _, rfl, rfl, Lq, i2, k, x0.1, x2.1, a0, a2, x0.2, x2.2, p0, p2, y0, y2, rfl, hA2, f0, f2, hp0, hp2, hy0, hy2, _, rfl, ?_⟩
  rw [<- em02]
  cases e5 : mayL k x0.2 x2.2 with
  | false =>
   rw [e5, Bool.false_and, if_pos rfl] at q2
   exact q2
  | true =>
  refine ⟨_, rfl, _, rfl, l, _, _, _, rfl, rfl, Lq, i1, _, rfl, l, _, _, _, rfl, rfl, Lq, i3, k, x1.1, x3.1, a1, a3, x1.2, x3.2, p1, p3, y1, y3, rfl, hA2, f1, f3, hp1, hp3, hy1, hy3, _, rfl, ?_⟩
  rw [<- em13]
  cases e6 : mayL k x1.2 x3.2 with
  | false =>
   rw [e5, e6, Bool.and_false, if_pos rfl] at q2
   exact q2
  | true =>
  rw [e5, e6, Bool.and_true, if_neg (by decide)] at q2
  refine ⟨_, rfl, _, rfl, k, s, l, x0, x1, x2, x3, rfl, hS2, sm _ _ hl, m0, m1, m2, m3, t0, t1, t2, t3, _, rfl, iteB (fun e7 => ?_) fun e7 => ?_⟩
  ·rw [if_pos e7] at q2
   exact q2
  ·rw [if_neg (by rw [e7]; decide)] at q2
   exact q2
end
end SHP
end
section
namespace SHP
open PySem PySem.Spec PyProof.Rows L2 SH
open Vbahas (Slot Flight State)
theorem flightsOf_none {s : State} : ∀ {l : List Int} {i : Int}, i ∈ l -> Vbahas.flightOf s i = none -> Vbahas.flightsOf s l = none
 | [], _, h, _ => (List.not_mem_nil h).elim
 | j :: l, i, h, hn => by
  unfold Vbahas.flightsOf
  rcases List.mem_cons.mp h with rfl | h
  ·rw [hn]
  ·rw [flightsOf_none h hn]
   cases Vbahas.flightOf s j <;> rfl
theorem trade_eq {c : Cs} {H : Hp} {k : Hs} {s : State} (hS : Sta c H k s) {x0 x1 x2 x3 : Addr × Flight} (m0 : x0 ∈ k.fs) (m1 : x1 ∈ k.fs) (m2 : x2 ∈ k.fs) (m3 : x3 ∈ k.fs) {a b cc d : Int} (i0 : x0.2.id = a) (i1 : x1.2.id = b) (i2 : x2.2.id = cc) (i3 : x3.2.id = d) :
  (refL k x0.2 x1.2 x2.2 x3.2 ≠ 0 -> Vbahas.stepTrade s a b cc d = (s, [refL k x0.2 x1.2 x2.2 x3.2])) /\
  (refL k x0.2 x1.2 x2.2 x3.2 = 0 -> (∃ p q r u, x0.2.place = some p /\ x1.2.place = some q /\ x2.2.place = some r /\ x3.2.place = some u /\ x0.2.ready <= tOf k.sl r /\ x2.2.ready <= tOf k.sl p /\ x1.2.ready <= tOf k.sl u /\ x3.2.ready <= tOf k.sl q) /\ x0.2.carrier = x1.2.carrier /\ x2.2.carrier = x3.2.carrier /\ x0.2.carrier ≠ x2.2.carrier /\ x0.2.id ≠ x1.2.id /\ x2.2.id ≠ x3.2.id /\
   Vbahas.stepTrade s a b cc d = (Vbahas.exchanged (Vbahas.exchanged s x0.2 x2.2) x1.2 x3.2, [0, Vbahas.cost s x0.2.carrier, Vbahas.cost (Vbahas.exchanged (Vbahas.exchanged s x0.2 x2.2) x1.2 x3.2) x0.2.carrier, Vbahas.cost s x2.2.carrier, Vbahas.cost (Vbahas.exchanged (Vbahas.exchanged s x0.2 x2.2) x1.2 x3.2) x2.2.carrier])) := by
 subst i0 i1 i2 i3
 have g0 := hS.rel.find (Hs.mem_fl m0)
 have g1 := hS.rel.find (Hs.mem_fl m1)
 have g2 := hS.rel.find (Hs.mem_fl m2)
 have g3 := hS.rel.find (Hs.mem_fl m3)
 have w0 := Rel.fokS hS.rel (Hs.mem_fl m0)
 have w1 := Rel.fokS hS.rel (Hs.mem_fl m1)
 have w2 := Rel.fokS hS.rel (Hs.mem_fl m2)
 have w3 := Rel.fokS hS.rel (Hs.mem_fl m3)
 have hfs : Vbahas.flightsOf s [x0.2.id, x1.2.id, x2.2.id, x3.2.id] = some [x0.2, x1.2, x2.2, x3.2] := by
  simp only [Vbahas.flightsOf, g0, g1, g2, g3]
 unfold Vbahas.stepTrade
 rw [hfs]
 dsimp only
 cases h0 : x0.2.place with
 | none =>
  have er : refL k x0.2 x1.2 x2.2 x3.2 = -9 := if_pos (by unfold seatL; rw [h0]; rfl)
  rw [er, seated_no g0 h0]
  exact ⟨fun _ => rfl, fun z => absurd z (by decide)⟩
 | some p =>
 rw [seated_at g0 w0 h0]
 cases h1 : x1.2.place with
 | none =>
  have er : refL k x0.2 x1.2 x2.2 x3.2 = -9 := if_pos (by unfold seatL; rw [h1]; simp)
  rw [er, seated_no g1 h1]
  exact ⟨fun _ => rfl, fun z => absurd z (by decide)⟩
 | some q =>
 rw [seated_at g1 w1 h1]
 cases h2 : x2.2.place with
 | none =>
  have er : refL k x0.2 x1.2 x2.2 x3.2 = -9 := if_pos (by unfold seatL; rw [h2]; simp)
  rw [er, seated_no g2 h2]
  exact ⟨fun _ => rfl, fun z => absurd z (by decide)⟩
 | some r =>
 rw [seated_at g2 w2 h2]
 cases h3 : x3.2.place with
 | none =>
  have er : refL k x0.2 x1.2 x2.2 x3.2 = -9 := if_pos (by unfold seatL; rw [h3]; simp)
  rw [er, seated_no g3 h3]
  exact ⟨fun _ => rfl, fun z => absurd z (by decide)⟩
 | some u =>
 rw [seated_at g3 w3 h3]
 dsimp only
 have lp : p < s.slots.length := (w0.place p h0).1
 have lq : q < s.slots.length := (w1.place q h1).1
 have lr : r < s.slots.length := (w2.place r h2).1
 have lu : u < s.slots.length := (w3.place u h3).1
 have tt : ∀ y, Vbahas.timeOf s y = tOf k.sl y := fun y => by rw [timeOf_eq, hS.rel.sl]
 have e9 : (seatL x0.2 || (seatL x1.2 || (seatL x2.2 || seatL x3.2))) = false := by unfold seatL; rw [h0, h1, h2, h3]; rfl
 have p0 : pT k x0.2 = tOf k.sl p := by unfold pT; rw [h0]; rfl
 have p1 : pT k x1.2 = tOf k.sl q := by unfold pT; rw [h1]; rfl
 have p2 : pT k x2.2 = tOf k.sl r := by unfold pT; rw [h2]; rfl
 have p3 : pT k x3.2 = tOf k.sl u := by unfold pT; rw [h3]; rfl
 have er : refL k x0.2 x1.2 x2.2 x3.2 = if ¬ (x0.2.carrier = x1.2.carrier /\ x0.2.id ≠ x1.2.id) \/ ¬ (x2.2.carrier = x3.2.carrier /\ x2.2.id ≠ x3.2.id) \/ x0.2.carrier = x2.2.carrier then -10
   else if (mayL k x0.2 x2.2 && mayL k x1.2 x3.2) = false then -11 else if losL k x0.2 x1.2 x2.2 x3.2 = true then -12 else 0 := if_neg (by rw [e9]; decide)
 by_cases c1 : x0.2.carrier ≠ x1.2.carrier \/ x2.2.carrier ≠ x3.2.carrier \/ x0.2.carrier = x2.2.carrier \/ x0.2.id = x1.2.id \/ x2.2.id = x3.2.id
 ·have c1' : ¬ (x0.2.carrier = x1.2.carrier /\ x0.2.id ≠ x1.2.id) \/ ¬ (x2.2.carrier = x3.2.carrier /\ x2.2.id ≠ x3.2.id) \/ x0.2.carrier = x2.2.carrier := by
   rcases c1 with z | z | z | z | z
   ·exact .inl fun y => z y.1
   ·exact .inr (.inl fun y => z y.1)
   ·exact .inr (.inr z)
   ·exact .inl fun y => y.2 z
   ·exact .inr (.inl fun y => y.2 z)
  rw [if_pos c1'] at er
  rw [er, if_pos c1]
  exact ⟨fun _ => rfl, fun z => absurd z (by decide)⟩
 have n1 : x0.2.carrier = x1.2.carrier := Classical.byContradiction fun z => c1 (.inl z)
 have n2 : x2.2.carrier = x3.2.carrier := Classical.byContradiction fun z => c1 (.inr (.inl z))
 have n3 : x0.2.carrier ≠ x2.2.carrier := fun z => c1 (.inr (.inr (.inl z)))
 have n4 : x0.2.id ≠ x1.2.id := fun z => c1 (.inr (.inr (.inr (.inl z))))
 have n5 : x2.2.id ≠ x3.2.id := fun z => c1 (.inr (.inr (.inr (.inr z))))
 rw [if_neg (by rintro (z | z | z); exact z ⟨n1, n4⟩; exact z ⟨n2, n5⟩; exact n3 z)] at er
 rw [if_neg c1, h0, h1, h2, h3]
 dsimp only [Option.getD_some]
 have ef : (Vbahas.fitsAt s x0.2 r && (Vbahas.fitsAt s x2.2 p && (Vbahas.fitsAt s x1.2 u && Vbahas.fitsAt s x3.2 q))) = (mayL k x0.2 x2.2 && mayL k x1.2 x3.2) := by
  unfold Vbahas.fitsAt mayL
  rw [decide_eq_true lp, decide_eq_true lq, decide_eq_true lr, decide_eq_true lu, p0, p1, p2, p3, tt, tt, tt, tt]
  simp only [Bool.true_and, Bool.and_assoc]
 cases hm : (mayL k x0.2 x2.2 && mayL k x1.2 x3.2) with
 | false =>
  rw [if_pos hm] at er
  rw [er, if_pos (ef.trans hm)]
  exact ⟨fun _ => rfl, fun z => absurd z (by decide)⟩
 | true =>
 rw [if_neg (by rw [hm]; decide)] at er
 have nf : ¬ (Vbahas.fitsAt s x0.2 r && (Vbahas.fitsAt s x2.2 p && (Vbahas.fitsAt s x1.2 u && Vbahas.fitsAt s x3.2 q))) = false := by rw [ef, hm]; decide
 rw [if_neg nf]
 rw [Bool.and_eq_true] at hm
 unfold mayL at hm
 rw [Bool.and_eq_true, Bool.and_eq_true, decide_eq_true_eq, decide_eq_true_eq, decide_eq_true_eq, decide_eq_true_eq, p0, p1, p2, p3] at hm
 obtain ⟨⟨y1, y2⟩, y3, y4⟩ := hm
 obtain ⟨k1, k2⟩ := cost_trade hS.rel.wf (hS.rel.mem.mp (Hs.mem_fl m0)) (hS.rel.mem.mp (Hs.mem_fl m1)) (hS.rel.mem.mp (Hs.mem_fl m2)) (hS.rel.mem.mp (Hs.mem_fl m3)) h0 h1 h2 h3 n1 n2 n3 n4 n5 (by rw [tt]; exact y1) (by rw [tt]; exact y2)
 rw [tt, tt, tt, tt] at k1 k2
 have s1 : savd k x0.2 x2.2 + savd k x1.2 x3.2 = x0.2.weight * (tOf k.sl p - tOf k.sl r) + x1.2.weight * (tOf k.sl q - tOf k.sl u) := by unfold savd; rw [p0, p1, p2, p3]
 have s2 : savd k x2.2 x0.2 + savd k x3.2 x1.2 = x2.2.weight * (tOf k.sl r - tOf k.sl p) + x3.2.weight * (tOf k.sl u - tOf k.sl q) := by unfold savd; rw [p0, p1, p2, p3]
 have el : (losL k x0.2 x1.2 x2.2 x3.2 = true) ↔ (Vbahas.cost s x0.2.carrier < Vbahas.cost (Vbahas.exchanged (Vbahas.exchanged s x0.2 x2.2) x1.2 x3.2) x0.2.carrier \/ Vbahas.cost s x2.2.carrier < Vbahas.cost (Vbahas.exchanged (Vbahas.exchanged s x0.2 x2.2) x1.2 x3.2) x2.2.carrier \/ (Vbahas.cost (Vbahas.exchanged (Vbahas.exchanged s x0.2 x2.2) x1.2 x3.2) x0.2.carrier = Vbahas.cost s x0.2.carrier /\ Vbahas.cost (Vbahas.exchanged (Vbahas.exchanged s x0.2 x2.2) x1.2 x3.2) x2.2.carrier = Vbahas.cost s x2.2.carrier)) := by
  rw [k1, k2, <- s1, <- s2]
  unfold losL
  rw [Bool.or_eq_true, Bool.or_eq_true, Bool.and_eq_true, decide_eq_true_eq, decide_eq_true_eq, decide_eq_true_eq, decide_eq_true_eq]
  generalize savd k x0.2 x2.2 + savd k x1.2 x3.2 = A
  generalize savd k x2.2 x0.2 + savd k x3.2 x1.2 = B
  omega
 by_cases hl : losL k x0.2 x1.2 x2.2 x3.2 = true
 ·rw [if_pos hl] at er
  rw [er, if_pos (el.mp hl)]
  exact ⟨fun _ => rfl, fun z => absurd z (by decide)⟩
 ·rw [if_neg hl] at er
  rw [er, if_neg (fun z => hl (el.mpr z))]
  exact ⟨fun z => absurd rfl z, fun _ => ⟨⟨p, q, r, u, rfl, rfl, rfl, rfl, y1, y2, y3, y4⟩, n1, n2, n3, n4, n5, rfl⟩⟩
end SHP
end
section
namespace SHP
open PySem PySem.Spec PyProof.Rows L2 SH
open Vbahas (Slot Flight State)
section
variable {P : Program} {w : World} {K : PySem.W.Frag} {mg : Str -> Option Value} {base : Heap} {c : Cs}
theorem sc_trade : FSc ["house", "numbers", "flights", "refusal", "carriers", "before", "after", "number", "carrier"] ["house", "numbers"] (dSc s_trade) := ⟨rfl, rfl, rfl, by decide +kernel, rfl, by decide +kernel, by decide +kernel⟩
def sp_trade (c : Cs) : Sp := fun vs H Q _ => ∃ (k : Hs) (s : State) (n : Addr) (a b cc d : Int), vs = [.ref k.h, .ref n] /\ Sta c H k s /\ H n = some (.lst ([a, b, cc, d].map V.int)) /\ Ans c H k (Vbahas.stepTrade s a b cc d) Q
def noneV (k : Hs) (i : Int) : Bool := !(k.fs.find? fun x => decide (x.2.id = i)).isSome
theorem ok_trade (T : Txt K mg c) (D : DefAt K mg "trade" s_trade ["house", "numbers"]) (O_trade_refusal : Ok P w K mg base 4 "trade_refusal" ["house", "flights"] (sp_trade_refusal c)) (O_carrier_cost : Ok P w K mg base 3 "carrier_cost" ["house", "carrier"] (sp_carrier_cost c))
  (O_change_places : Ok P w K mg base 3 "change_places" ["house", "first", "second"] (sp_change_places c)) : Ok P w K mg base 5 "trade" ["house", "numbers"] (sp_trade c) := by
 refine mkOk D sc_trade (fun vs H Q E h => ?_) fun f cdv A outer s H vs Q E hr h => ?_
 ·obtain ⟨k, s, n, a, b, cc, d, rfl, _⟩ := h; rfl
 ·obtain ⟨k, s, n, a, b, cc, d, rfl, hS, hn, q⟩ := h
  have nd := sc_trade.nd
  have hu := hu_of hr
  refine ⟨_, (bC (ps_if (pt_val (pe_callB (cr_any rfl) (by rfl) T.b_any (by decide +kernel) (aC (pe_lc (own := [("number", 7)]) rfl nd (pi_list (pv 1)) (blkOk_by (by show blkC ["house", "numbers", "flights", "refusal", "carriers", "before", "after", "number", "carrier"] (dSc s_trade) _ _ = true; decide +kernel)) (fun _ _ _ _ _ => (pg_name (i := 7) nd rfl (Or.inl rfl))) (fun _ _ _ _ _ => pts_nil) (fun _ _ _ _ _ => (pe_cmp (pc_dnotin hu (pv 7) (pf_flights T (pv 0)))))) aN))) (bO (pRt (pe_lst (aC (gIn T.c_NOT_THERE rfl) aN)))) bN)
   (bC (ps_setLc (i := 2) (own := [("number", 7)]) rfl nd rfl rfl (sw_true rfl rfl rfl rfl) (pi_list (pv 1)) (blkOk_by (by show blkC ["house", "numbers", "flights", "refusal", "carriers", "before", "after", "number", "carrier"] (dSc s_trade) _ _ = true; decide +kernel)) (fun _ _ _ _ _ => (pg_name (i := 7) nd rfl (Or.inl rfl))) (fun _ _ _ _ _ => pts_nil) (fun _ _ _ _ _ => (pe_dget hu (pf_flights T (pv 0)) (pv 7) (fun _ _ => rfl))))
   (bC (ps_set (i := 3) nd rfl (by first | exact Or.inl rfl | exact Or.inr rfl) (pe_fn O_trade_refusal hr rfl (aC (pv 0) (aC (pv 2) aN))))
   (bC (ps_if (tCm op_ne (pv 3) pe_int (nMk _)) (bO (pRt (pe_lst (aC (pv 3) aN)))) bN)
   (bC (ps_set (i := 4) nd rfl (by first | exact Or.inl rfl | exact Or.inr rfl) (pe_lst (aC (pf_carrier T (pe_ix iXl (pv 2) pe_int (fun _ _ => rfl))) (aC (pf_carrier T (pe_ix iXl (pv 2) pe_int (fun _ _ => rfl))) aN))))
   (bC (ps_setLc (i := 5) (own := [("carrier", 8)]) rfl nd rfl rfl (sw_true rfl rfl rfl rfl) (pi_list (pv 4)) (blkOk_by (by show blkC ["house", "numbers", "flights", "refusal", "carriers", "before", "after", "number", "carrier"] (dSc s_trade) _ _ = true; decide +kernel)) (fun _ _ _ _ _ => (pg_name (i := 8) nd rfl (Or.inl rfl))) (fun _ _ _ _ _ => pts_nil) (fun _ _ _ _ _ => (pe_fn O_carrier_cost hr rfl (aC (pv 0) (aC (pv 8) aN)))))
   (bC (ps_expr (pe_fn O_change_places hr rfl (aC (pv 0) (aC (pe_ix iXl (pv 2) pe_int (fun _ _ => rfl)) (aC (pe_ix iXl (pv 2) pe_int (fun _ _ => rfl)) aN)))))
   (bC (ps_expr (pe_fn O_change_places hr rfl (aC (pv 0) (aC (pe_ix iXl (pv 2) pe_int (fun _ _ => rfl)) (aC (pe_ix iXl (pv 2) pe_int (fun _ _ => rfl)) aN)))))
   (bC (ps_setLc (i := 6) (own := [("carrier", 8)]) rfl nd rfl rfl (sw_true rfl rfl rfl rfl) (pi_list (pv 4)) (blkOk_by (by show blkC ["house", "numbers", "flights", "refusal", "carriers", "before", "after", "number", "carrier"] (dSc s_trade) _ _ = true; decide +kernel)) (fun _ _ _ _ _ => (pg_name (i := 8) nd rfl (Or.inl rfl))) (fun _ _ _ _ _ => pts_nil) (fun _ _ _ _ _ => (pe_fn O_carrier_cost hr rfl (aC (pv 0) (aC (pv 8) aN)))))
   (bO (pRt (pe_lst (aC pe_int (aC (pe_ix iXl (pv 5) pe_int (fun _ _ => rfl)) (aC (pe_ix iXl (pv 6) pe_int (fun _ _ => rfl)) (aC (pe_ix iXl (pv 5) pe_int (fun _ _ => rfl)) (aC (pe_ix iXl (pv 6) pe_int (fun _ _ => rfl)) aN))))))))))))))))), ?_⟩
  refine ⟨_, rfl, n, rfl, ⟨_, SqL.of hn⟩, fun D1 hD1 => ?_⟩
  refine lc_pure (xs := [a, b, cc, d]) (enc := V.int) (p := fun _ => true) (f := fun i => V.bl (noneV k i)) (fun H3 s3 => SqL.of (s3 _ _ hn)) hD1 (by show 4 <= 1000; decide) (fun i H3 Nn acc hi sm hacc hz hN => ?_) fun H1 s1 e1 => ?_
  ·have hS3 := hS.same sm
   refine ⟨rfl, ⟨_, rfl, _, rfl, k.h, (k.la, k.da, k.g), rfl, hS3.at_.hh, k.da, _, rfl, DGet.k (k := Sum.inl i) hS3.at_.hd, acc, hacc, lt1000 hz, hN _ (fun b o e' => by rw [uN (nN e' hD1)]; exact sm b o e') ?_⟩⟩
   rw [uS, dget, Option.isSome_map]; rfl
  have hS1 := hS.same s1
  refine ⟨D1, [noneV k a, noneV k b, noneV k cc, noneV k d], rfl, SqL.of e1, _, rfl, ?_⟩
  have eany : ([noneV k a, noneV k b, noneV k cc, noneV k d].any id) = [a, b, cc, d].any (noneV k) := by simp
  rw [eany]
  refine iteB (fun em => ?_) fun em => ?_
  ·obtain ⟨i, hi, hni⟩ := List.any_eq_true.mp em
   have hf : Vbahas.flightOf s i = none := by
    rcases hS.look i with ⟨_, h⟩ | ⟨j, a', f', _, _, h, _⟩
    ·exact h
    ·unfold noneV at hni
     rw [h] at hni; cases hni
   have e : Vbahas.stepTrade s a b cc d = (s, [-5]) := by
    unfold Vbahas.stepTrade
    rw [flightsOf_none hi hf]
   rw [e] at q
   exact ⟨zl1, (q.ro hS rfl s1).of (Same.refl H1)⟩
  have hall : ∀ i ∈ [a, b, cc, d], ∃ x ∈ k.fs, x.2.id = i := fun i hi => by
   have h1 := List.any_eq_false.mp em i hi
   cases hf : k.fs.find? fun x => decide (x.2.id = i) with
   | none => unfold noneV at h1; rw [hf] at h1; exact (h1 rfl).elim
   | some x => exact ⟨x, List.mem_of_find?_eq_some hf, of_decide_eq_true (List.find?_some (p := fun (x : Addr × Flight) => decide (x.2.id = i)) hf)⟩
  obtain ⟨xs, N⟩ := Named.of [a, b, cc, d] k hall
  obtain ⟨x0, x1, x2, x3, rfl⟩ : ∃ x0 x1 x2 x3, xs = [x0, x1, x2, x3] := by
   have hl := N.len
   match xs, hl with
   | [x0, x1, x2, x3], _ => exact ⟨x0, x1, x2, x3, rfl⟩
  have m0 : x0 ∈ k.fs := N.mem x0 (by simp)
  have m1 : x1 ∈ k.fs := N.mem x1 (by simp)
  have m2 : x2 ∈ k.fs := N.mem x2 (by simp)
  have m3 : x3 ∈ k.fs := N.mem x3 (by simp)
  have hids := N.ids
  simp only [List.map_cons, List.map_nil, List.cons.injEq, and_true] at hids
  obtain ⟨i0, i1, i2, i3⟩ := hids
  obtain ⟨tr1, tr2⟩ := trade_eq hS m0 m1 m2 m3 i0 i1 i2 i3
  refine ⟨_, rfl, n, rfl, ⟨_, SqL.of (s1 _ _ hn)⟩, fun D2 hD2 => ?_⟩
  refine lc_pure (xs := [a, b, cc, d]) (enc := V.int) (p := fun _ => true) (f := lookV k) (fun H3 s3 => SqL.of (s3 _ _ (s1 _ _ hn))) hD2 (by show 4 <= 1000; decide) (fun i H3 Nn acc hi sm hacc hz hN => ?_) fun H2 s2 e2 => ?_
  ·obtain ⟨x, hx, ei⟩ : ∃ x ∈ k.fs, x.2.id = i := hall i hi
   have hS3 := hS1.same sm
   have hlk : lookV k i = refV x := by
    unfold lookV
    rw [<- ei, Named.look hS hx]
   refine ⟨rfl, ⟨_, rfl, k.h, (k.la, k.da, k.g), rfl, hS3.at_.hh, _, rfl, k.da, V.ref x.1, rfl, (by have := DGet.k (k := Sum.inl i) hS3.at_.hd; rw [dget, <- ei, Named.look hS hx] at this; rw [<- ei]; exact this), acc, hacc, lt1000 hz, hN _ (fun b o e' => by rw [uN (nN e' hD2)]; exact sm b o e') ?_⟩⟩
   rw [uS, hlk]; rfl
  rw [List.filter_eq_self.mpr fun _ _ => rfl, N.vals hS] at e2
  have e2 : H2 D2 = some (.lst [refV x0, refV x1, refV x2, refV x3]) := e2
  have sH2 := s1.trans s2
  have hS2 := hS.same sH2
  refine ⟨_, rfl, _, rfl, k, s, D2, x0, x1, x2, x3, rfl, hS2, e2, m0, m1, m2, m3, fun H3 s3 => ?_⟩
  have sH3 := sH2.trans s3
  have hS3 := hS.same sH3
  refine ⟨_, rfl, rfl, _, rfl, iteNI (fun e0 => ?_) fun e0 => ?_⟩
  ·rw [tr1 e0] at q
   exact ⟨_, rfl, zl1, (q.ro hS rfl sH3).of (Same.refl H3)⟩
  obtain ⟨⟨p, qq, r, u, h0, h1, h2, h3, y1, y2, y3, y4⟩, n1, n2, n3, n4, n5, est⟩ := tr2 e0
  rw [est] at q
  have e3 : H3 D2 = some (.lst [refV x0, refV x1, refV x2, refV x3]) := s3 _ _ e2
  have z0 := at_of (xs := [refV x0, refV x1, refV x2, refV x3]) (z := 0) (j := 0) (v := refV x0) rfl rfl
  have z1 := at_of (xs := [refV x0, refV x1, refV x2, refV x3]) (z := 1) (j := 1) (v := refV x1) rfl rfl
  have z2 := at_of (xs := [refV x0, refV x1, refV x2, refV x3]) (z := 2) (j := 2) (v := refV x2) rfl rfl
  have z3 := at_of (xs := [refV x0, refV x1, refV x2, refV x3]) (z := 3) (j := 3) (v := refV x3) rfl rfl
  refine ⟨_, rfl, D2, _, _, _, rfl, rfl, SqL.of e3, z0, x0.1, x0.2, rfl, hS3.at_.hf x0 m0, _, rfl, D2, _, _, _, rfl, rfl, SqL.of e3, z2, x2.1, x2.2, rfl, hS3.at_.hf x2 m2, zl2, fun lc hlc => ?_⟩
  have s4 : Same H3 (upd H3 lc (.lst [V.int x0.2.carrier, V.int x2.2.carrier])) := Same.upd hlc
  have sH4 := sH3.trans s4
  have hS4 := hS.same sH4
  have nlc : ¬ k.foot lc := foot_none hS3 hlc
  refine ⟨_, rfl, lc, rfl, ⟨_, SqL.of uS⟩, fun D5 hD5 => ?_⟩
  refine lc_pure (xs := [x0.2.carrier, x2.2.carrier]) (enc := V.int) (p := fun _ => true) (f := fun i => V.int (costL k.sl k.fl i)) (fun H6 s6 => SqL.of (s6 _ _ uS)) hD5 (by show 2 <= 1000; decide) (fun i H6 Nn acc hi sm hacc hz hN => ?_) fun H5 s5 e5 => ?_
  ·refine ⟨rfl, ⟨_, rfl, _, rfl, k, s, i, rfl, hS4.same sm, fun H7 s7 => ⟨acc, s7 _ _ hacc, lt1000 hz, hN _ (fun b o e' => by rw [uN (nN e' hD5)]; exact s7 _ _ (sm b o e')) ?_⟩⟩⟩
   rw [uS]; rfl
  have sH5 := sH4.trans s5
  have hS5 := hS.same sH5
  have nD5 : ¬ k.foot D5 := foot_none hS4 hD5
  have nD2 : ¬ k.foot D2 := foot_none hS1 hD2
  have e3' : H5 D2 = some (.lst [refV x0, refV x1, refV x2, refV x3]) := s5 _ _ (s4 _ _ e3)
  have elc5 : H5 lc = some (.lst [V.int x0.2.carrier, V.int x2.2.carrier]) := s5 _ _ uS
  obtain ⟨j0, hj0⟩ := List.getElem?_of_mem m0
  obtain ⟨j1, hj1⟩ := List.getElem?_of_mem m1
  obtain ⟨j2, hj2⟩ := List.getElem?_of_mem m2
  obtain ⟨j3, hj3⟩ := List.getElem?_of_mem m3
  have dist : ∀ {i j : Nat} {x y : Addr × Flight}, k.fs[i]? = some x -> k.fs[j]? = some y -> x.2.id ≠ y.2.id -> i ≠ j := fun hx hy hne z => hne (by rw [z, hy] at hx; rw [Option.some.inj hx])
  have c12 : x1.2.id ≠ x2.2.id := fun z => n3 (by rw [n1, hS.rel.id_inj (Hs.mem_fl m1) (Hs.mem_fl m2) z])
  have c02 : x0.2.id ≠ x2.2.id := fun z => n3 (by rw [hS.rel.id_inj (Hs.mem_fl m0) (Hs.mem_fl m2) z])
  have c03 : x0.2.id ≠ x3.2.id := fun z => n3 (by rw [n2, hS.rel.id_inj (Hs.mem_fl m0) (Hs.mem_fl m3) z])
  have c13 : x1.2.id ≠ x3.2.id := fun z => n3 (by rw [n1, n2, hS.rel.id_inj (Hs.mem_fl m1) (Hs.mem_fl m3) z])
  refine ⟨_, rfl, _, rfl, D2, _, _, _, rfl, rfl, SqL.of e3', z0, _, rfl, D2, _, _, _, rfl, rfl, SqL.of e3', z2, k, s, j0, j2, x0.1, x2.1, x0.2, x2.2, p, r, rfl, hS5, hj0, hj2, dist hj2 hj0 (Ne.symm c02), h0, h2, y1, y2, fun H6 k6 S6 F6 efs6 => ?_⟩
  have t6 : ∀ y, tOf k6.sl y = tOf k.sl y := fun y => by
   rw [<- S6.rel.sl, exchanged_t, hS.rel.sl]
  have hj1' : k6.fs[j1]? = some (x1.1, x1.2) := by
   rw [efs6, List.getElem?_set_ne (dist hj2 hj1 (Ne.symm c12)), List.getElem?_set_ne (dist hj0 hj1 n4)]
   exact hj1
  have hj3' : k6.fs[j3]? = some (x3.1, x3.2) := by
   rw [efs6, List.getElem?_set_ne (dist hj2 hj3 n5), List.getElem?_set_ne (dist hj0 hj3 c03)]
   exact hj3
  have e36 := F6.out D2 _ e3' nD2
  refine ⟨_, rfl, _, rfl, D2, _, _, _, rfl, rfl, SqL.of e36, z1, _, rfl, D2, _, _, _, rfl, rfl, SqL.of e36, z3, k6, _, j1, j3, x1.1, x3.1, x1.2, x3.2, qq, u, (by rw [F6.h]; rfl), S6, hj1', hj3', dist hj3 hj1 (Ne.symm c13), h1, h3, (by rw [t6]; exact y3), (by rw [t6]; exact y4), fun H7 k7 S7 F7 efs7 => ?_⟩
  have F57 := F6.trans F7
  have elc7 := F57.out lc _ elc5 nlc
  have e57 := F57.out D5 _ e5 nD5
  have hh7 : k7.h = k.h := F57.h
  refine ⟨_, rfl, lc, rfl, ⟨_, SqL.of elc7⟩, fun D8 hD8 => ?_⟩
  refine lc_pure (xs := [x0.2.carrier, x2.2.carrier]) (enc := V.int) (p := fun _ => true) (f := fun i => V.int (costL k7.sl k7.fl i)) (fun H6 s6 => SqL.of (s6 _ _ elc7)) hD8 (by show 2 <= 1000; decide) (fun i H6' Nn acc hi sm hacc hz hN => ?_) fun H8 s8 e8 => ?_
  ·refine ⟨rfl, ⟨_, rfl, _, rfl, k7, _, i, (by rw [hh7]; rfl), S7.same sm, fun H7' s7 => ⟨acc, s7 _ _ hacc, lt1000 hz, hN _ (fun b o e' => by rw [uN (nN e' hD8)]; exact s7 _ _ (sm b o e')) ?_⟩⟩⟩
   rw [uS]; rfl
  have e5' : H8 D5 = some (.lst [V.int (costL k.sl k.fl x0.2.carrier), V.int (costL k.sl k.fl x2.2.carrier)]) := s8 _ _ e57
  have e8' : H8 D8 = some (.lst [V.int (costL k7.sl k7.fl x0.2.carrier), V.int (costL k7.sl k7.fl x2.2.carrier)]) := e8
  have r1 : Vbahas.cost s x0.2.carrier = costL k.sl k.fl x0.2.carrier := hS.rel.cost _
  have r2 : Vbahas.cost s x2.2.carrier = costL k.sl k.fl x2.2.carrier := hS.rel.cost _
  have r3 : Vbahas.cost (Vbahas.exchanged (Vbahas.exchanged s x0.2 x2.2) x1.2 x3.2) x0.2.carrier = costL k7.sl k7.fl x0.2.carrier := S7.rel.cost _
  have r4 : Vbahas.cost (Vbahas.exchanged (Vbahas.exchanged s x0.2 x2.2) x1.2 x3.2) x2.2.carrier = costL k7.sl k7.fl x2.2.carrier := S7.rel.cost _
  rw [r1, r2, r3, r4] at q
  refine ⟨_, rfl, D5, _, _, _, rfl, rfl, SqL.of e5', at_of (j := 0) rfl rfl, _, rfl, D8, _, _, _, rfl, rfl, SqL.of e8', at_of (j := 0) rfl rfl, _, rfl, D5, _, _, _, rfl, rfl, SqL.of e5', at_of (j := 1) rfl rfl, _, rfl, D8, _, _, _, rfl, rfl, SqL.of e8', at_of (j := 1) rfl rfl, zl5, fun l9 hl9 => ?_⟩
  exact (q.fin S7 ((Fra.same k sH5).trans F57)).of s8 l9 hl9
end
end SHP
end
section
namespace SHP
open PySem PySem.Spec PyProof.Rows L2 SH
open Vbahas (Slot Flight State Call)
def rgN (i : Int) : List (Int × Int) :=
 if i = 0 then [(0, 52595999), (1, 1440), (1, 120)] else if i = 1 then [(0, 999999), (0, 675), (0, 52595999), (1, 1000)] else if i = 2 then [(0, 999999), (0, 1)] else if i = 3 then [(0, 999999), (0, 52595999)]
 else if i = 4 then [(0, 999999)] else if i = 11 then [(0, 999999)] else if i = 7 then [(0, 999999), (0, 999999)] else if i = 9 then [(0, 999999), (0, 999999), (0, 999999), (0, 999999)]
 else if i = 8 then [(0, 675)] else if i = 13 then [(0, 675)] else if i = 10 then [(1, 120)] else []
def rowR (i : Int) : Int × Int := if i = 15 then (0, 999999) else (1, 120)
def RetR (K : PySem.W.Frag) (H : Hp) (rs : List (Int × Int)) (Q : VK) : Prop := ∀ l H' as, H l = none -> Same H H' -> H' l = some (.lst (as.map V.ref)) -> Rgs K H' as rs -> Q (.ref l) H'
theorem Rgs.nil {K : PySem.W.Frag} {H : Hp} : Rgs K H [] [] := ⟨rfl, fun i a r h => by simp at h⟩
theorem Rgs.cons {K : PySem.W.Frag} {H : Hp} {a : Addr} {as : List Addr} {r : Int × Int} {rs : List (Int × Int)} (h : SqT K H a [.int r.1, .int r.2]) (t : Rgs K H as rs) : Rgs K H (a :: as) (r :: rs) :=
 ⟨by rw [List.length_cons, List.length_cons, t.1], fun i b q hb hq => by
  cases i with
  | zero =>
   have e1 : a = b := Option.some.inj hb
   have e2 : r = q := Option.some.inj hq
   rw [<- e1, <- e2]; exact h
  | succ i => exact t.2 i b q (by simpa using hb) (by simpa using hq)⟩
theorem Rgs.rep {K : PySem.W.Frag} {H : Hp} {a : Addr} {r : Int × Int} (h : SqT K H a [.int r.1, .int r.2]) : ∀ n, Rgs K H (List.replicate n a) (List.replicate n r)
 | 0 => Rgs.nil
 | n + 1 => Rgs.cons h (Rgs.rep h n)
theorem allR_rep (r : Int × Int) : ∀ l : List Int, allR l (List.replicate l.length r) = l.all fun x => inR x r
 | [] => rfl
 | x :: l => by
  show (inR x r && allR l (List.replicate l.length r)) = _
  rw [allR_rep r l, List.all_cons]
theorem rep_one (a : Addr) : ∀ n : Nat, (List.replicate n [V.ref a]).flatten = (List.replicate n a).map V.ref
 | 0 => rfl
 | n + 1 => by rw [List.replicate_succ, List.flatten_cons, rep_one a n]; rfl
def nums : Call -> List Int
 | .queue l => l
 | .rival l => l
 | k => args k
def rowB (k : Call) : Bool := decide (num k = 15) || decide (num k = 16)
theorem rowB_cases (k : Call) : (rowB k = true /\ ((∃ l, k = .queue l) \/ ∃ l, k = .rival l)) \/ (rowB k = false /\ nums k = args k /\ (args k).length = (rgN (num k)).length /\ allR (args k) (rgN (num k)) = Vbahas.inRange k) := by
 cases k with
 | queue l => exact .inl ⟨rfl, .inl ⟨l, rfl⟩⟩
 | rival l => exact .inl ⟨rfl, .inr ⟨l, rfl⟩⟩
 | slots a g n => refine .inr ⟨rfl, rfl, rfl, ?_⟩; show (inR a _ && (inR g _ && (inR n _ && true))) = _; rw [Bool.and_true, <- Bool.and_assoc]; rfl
 | flight i c t w => refine .inr ⟨rfl, rfl, rfl, ?_⟩; show (inR i _ && (inR c _ && (inR t _ && (inR w _ && true)))) = _; rw [Bool.and_true, <- Bool.and_assoc, <- Bool.and_assoc]; rfl
 | exempt i y => refine .inr ⟨rfl, rfl, rfl, ?_⟩; show (inR i _ && (inR y _ && true)) = _; rw [Bool.and_true]; rfl
 | ready i t => refine .inr ⟨rfl, rfl, rfl, ?_⟩; show (inR i _ && (inR t _ && true)) = _; rw [Bool.and_true]; rfl
 | cancel i => refine .inr ⟨rfl, rfl, rfl, ?_⟩; show (inR i _ && true) = _; rw [Bool.and_true]; rfl
 | swap a b => refine .inr ⟨rfl, rfl, rfl, ?_⟩; show (inR a _ && (inR b _ && true)) = _; rw [Bool.and_true]; rfl
 | best a => refine .inr ⟨rfl, rfl, rfl, ?_⟩; show (inR a _ && true) = _; rw [Bool.and_true]; rfl
 | trade a b c d => refine .inr ⟨rfl, rfl, rfl, ?_⟩; show (inR a _ && (inR b _ && (inR c _ && (inR d _ && true)))) = _; rw [Bool.and_true, <- Bool.and_assoc, <- Bool.and_assoc]; rfl
 | release a => refine .inr ⟨rfl, rfl, rfl, ?_⟩; show (inR a _ && true) = _; rw [Bool.and_true]; rfl
 | slot a => refine .inr ⟨rfl, rfl, rfl, ?_⟩; show (inR a _ && true) = _; rw [Bool.and_true]; rfl
 | carrier a => refine .inr ⟨rfl, rfl, rfl, ?_⟩; show (inR a _ && true) = _; rw [Bool.and_true]; rfl
 | ration => exact .inr ⟨rfl, rfl, rfl, rfl⟩
 | compress => exact .inr ⟨rfl, rfl, rfl, rfl⟩
 | table => exact .inr ⟨rfl, rfl, rfl, rfl⟩
 | total => exact .inr ⟨rfl, rfl, rfl, rfl⟩
 | open_ => exact .inr ⟨rfl, rfl, rfl, rfl⟩
theorem num_range (k : Call) : 0 <= num k /\ num k <= 17 := by cases k <;> simp [num]
section
variable {P : Program} {w : World} {K : PySem.W.Frag} {mg : Str -> Option Value} {base : Heap} {c : Cs}
theorem sc_has_row : FSc ["call"] ["call"] (dSc s_has_row) := ⟨rfl, rfl, rfl, by decide +kernel, rfl, by decide +kernel, by decide +kernel⟩
def sp_has_row : Sp := fun vs H Q _ => ∃ i : Int, vs = [.int i] /\ Q (.bl (decide (i = 15) || decide (i = 16))) H
theorem ok_has_row (T : Txt K mg c) (D : DefAt K mg "has_row" s_has_row ["call"]) : Ok P w K mg base 1 "has_row" ["call"] sp_has_row := by
 refine mkOk D sc_has_row (fun vs H Q E h => ?_) fun f cdv A outer s H vs Q E hr h => ?_
 ·obtain ⟨i, rfl, _⟩ := h; rfl
 ·obtain ⟨i, rfl, q⟩ := h
  refine ⟨_, (bO (pRt (pe_or (pe_cmpR op_eq (pv 0) (gIn T.c_QUEUE rfl) (nMk _)) (pe_one (pe_cmpR op_eq (pv 0) (gIn T.c_RIVAL rfl) (nMk _)))))), ?_⟩
  refine ⟨_, rfl, rfl, _, rfl, iteI (fun e => ?_) fun e => ?_⟩
  ·rw [decide_eq_true e] at q
   exact q
  ·rw [decide_eq_false e] at q
   refine ⟨_, rfl, rfl, ?_⟩
   rw [dec_int']
   exact q
theorem sc_row_range_of : FSc ["call"] ["call"] (dSc s_row_range_of) := ⟨rfl, rfl, rfl, by decide +kernel, rfl, by decide +kernel, by decide +kernel⟩
def sp_row_range_of (K : PySem.W.Frag) : Sp := fun vs H Q _ => ∃ i : Int, vs = [.int i] /\ ∀ a H', Same H H' -> SqT K H' a [.int (rowR i).1, .int (rowR i).2] -> Q (.ref a) H'
theorem ok_row_range_of (T : Txt K mg c) (D : DefAt K mg "row_range_of" s_row_range_of ["call"]) : Ok P w K mg base 1 "row_range_of" ["call"] (sp_row_range_of K) := by
 refine mkOk D sc_row_range_of (fun vs H Q E h => ?_) fun f cdv A outer s H vs Q E hr h => ?_
 ·obtain ⟨i, rfl, _⟩ := h; rfl
 ·obtain ⟨i, rfl, q⟩ := h
  obtain ⟨a_ID_RANGE, h_ID_RANGE, q_ID_RANGE⟩ := T.t_ID_RANGE
  refine ⟨_, (bO (pRt (pe_ifExp (tCm op_eq (pv 0) (gIn T.c_QUEUE rfl) (nMk _)) (pe_gref h_ID_RANGE rfl) (pe_tup (aC pe_int (aC (gIn T.c_MOST_SLOTS rfl) aN)))))), ?_⟩
  refine ⟨_, rfl, rfl, _, rfl, iteI (fun e => ?_) fun e => ?_⟩
  ·refine q _ H (Same.refl H) ?_
   unfold rowR
   rw [if_pos e]
   exact q_ID_RANGE H
  ·refine ⟨zl2, fun t ht => q t _ (Same.upd ht) ?_⟩
   unfold rowR
   rw [if_neg e]
   exact SqT.of uS
theorem sc_ranges_of : FSc ["call", "times"] ["call"] (dSc s_ranges_of) := ⟨rfl, rfl, rfl, by decide +kernel, rfl, by decide +kernel, by decide +kernel⟩
def sp_ranges_of (K : PySem.W.Frag) : Sp := fun vs H Q _ => ∃ i : Int, vs = [.int i] /\ 0 <= i /\ i <= 17 /\ i ≠ 15 /\ i ≠ 16 /\ RetR K H (rgN i) Q
theorem ok_ranges_of (T : Txt K mg c) (D : DefAt K mg "ranges_of" s_ranges_of ["call"]) : Ok P w K mg base 1 "ranges_of" ["call"] (sp_ranges_of K) := by
 refine mkOk D sc_ranges_of (fun vs H Q E h => ?_) fun f cdv A outer s H vs Q E hr h => ?_
 ·obtain ⟨i, rfl, _⟩ := h; rfl
 ·obtain ⟨i, rfl, h0, h17, h15, h16, q⟩ := h
  have nd := sc_ranges_of.nd
  obtain ⟨a_ID_RANGE, h_ID_RANGE, q_ID_RANGE⟩ := T.t_ID_RANGE
  obtain ⟨a_CARRIER_RANGE, h_CARRIER_RANGE, q_CARRIER_RANGE⟩ := T.t_CARRIER_RANGE
  obtain ⟨a_WEIGHT_RANGE, h_WEIGHT_RANGE, q_WEIGHT_RANGE⟩ := T.t_WEIGHT_RANGE
  obtain ⟨a_GAP_RANGE, h_GAP_RANGE, q_GAP_RANGE⟩ := T.t_GAP_RANGE
  obtain ⟨a_YES_RANGE, h_YES_RANGE, q_YES_RANGE⟩ := T.t_YES_RANGE
  refine ⟨_, (bC (ps_set (i := 1) nd rfl (by first | exact Or.inl rfl | exact Or.inr rfl) (pe_tup (aC pe_int (aC (gIn T.c_LAST_TIME rfl) aN))))
   (bC (ps_if (tCm op_eq (pv 0) (gIn T.c_SLOTS rfl) (nMk _)) (bO (pRt (pe_lst (aC (pv 1) (aC (pe_gref h_GAP_RANGE rfl) (aC (pe_tup (aC pe_int (aC (gIn T.c_MOST_SLOTS rfl) aN))) aN)))))) bN)
   (bC (ps_if (tCm op_eq (pv 0) (gIn T.c_FLIGHT rfl) (nMk _)) (bO (pRt (pe_lst (aC (pe_gref h_ID_RANGE rfl) (aC (pe_gref h_CARRIER_RANGE rfl) (aC (pv 1) (aC (pe_gref h_WEIGHT_RANGE rfl) aN))))))) bN)
   (bC (ps_if (tCm op_eq (pv 0) (gIn T.c_EXEMPT rfl) (nMk _)) (bO (pRt (pe_lst (aC (pe_gref h_ID_RANGE rfl) (aC (pe_gref h_YES_RANGE rfl) aN))))) bN)
   (bC (ps_if (tCm op_eq (pv 0) (gIn T.c_READY rfl) (nMk _)) (bO (pRt (pe_lst (aC (pe_gref h_ID_RANGE rfl) (aC (pv 1) aN))))) bN)
   (bC (ps_if (PW.pt (pw_or (tCm op_eq (pv 0) (gIn T.c_CANCEL rfl) (nMk _)) (pw_or1 (tCm op_eq (pv 0) (gIn T.c_SLOT rfl) (nMk _))))) (bO (pRt (pe_lst (aC (pe_gref h_ID_RANGE rfl) aN)))) bN)
   (bC (ps_if (tCm op_eq (pv 0) (gIn T.c_SWAP rfl) (nMk _)) (bO (pRt (pe_lst (aC (pe_gref h_ID_RANGE rfl) (aC (pe_gref h_ID_RANGE rfl) aN))))) bN)
   (bC (ps_if (tCm op_eq (pv 0) (gIn T.c_TRADE rfl) (nMk _)) (bO (pRt (pe_lst (aC (pe_gref h_ID_RANGE rfl) (aC (pe_gref h_ID_RANGE rfl) (aC (pe_gref h_ID_RANGE rfl) (aC (pe_gref h_ID_RANGE rfl) aN))))))) bN)
   (bC (ps_if (PW.pt (pw_or (tCm op_eq (pv 0) (gIn T.c_BEST rfl) (nMk _)) (pw_or1 (tCm op_eq (pv 0) (gIn T.c_CARRIER rfl) (nMk _))))) (bO (pRt (pe_lst (aC (pe_gref h_CARRIER_RANGE rfl) aN)))) bN)
   (bC (ps_if (tCm op_eq (pv 0) (gIn T.c_RELEASE rfl) (nMk _)) (bO (pRt (pe_lst (aC (pe_tup (aC pe_int (aC (gIn T.c_MOST_SLOTS rfl) aN))) aN)))) bN)
   (bC (ps_if (tCm (show OpR _ (compareOp .In) (rIn K false) from op_in_seq) (pv 0) (pe_tup (aC (gIn T.c_RATION rfl) (aC (gIn T.c_COMPRESS rfl) (aC (gIn T.c_TABLE rfl) (aC (gIn T.c_TOTAL rfl) (aC (gIn T.c_OPEN rfl) aN)))))) (by with_unfolding_all rfl)) (bO (pRt (pe_lst aN))) bN)
   (bO ps_never)))))))))))), ?_⟩
  refine ⟨zl2, fun t ht => ?_⟩
  have s1 : Same H (upd H t (.tup [.int 0, .int 52595999])) := Same.upd ht
  have hT : SqT K (upd H t (.tup [.int 0, .int 52595999])) t [.int 0, .int 52595999] := SqT.of uS
  unfold rgN at q
  refine ⟨_, rfl, rfl, _, rfl, iteI (fun e => ?_) fun n0 => ?_⟩
  ·rw [if_pos e] at q
   refine ⟨_, rfl, zl2, fun t2 ht2 => ⟨zl3, fun l hl => ?_⟩⟩
   have s2 := (Same.upd (o := .tup [.int 1, .int 120]) ht2)
   have s3 := (Same.upd (o := .lst [V.ref t, V.ref a_GAP_RANGE, V.ref t2]) hl)
   exact q l _ [t, a_GAP_RANGE, t2] (s1.free (s2.free hl)) ((s1.trans s2).trans s3) uS (Rgs.cons (Same.sqT (s2.trans s3) hT) (Rgs.cons (q_GAP_RANGE _) (Rgs.cons (Same.sqT s3 (SqT.of uS)) Rgs.nil)))
  rw [if_neg n0] at q
  refine ⟨_, rfl, rfl, _, rfl, iteI (fun e => ?_) fun n1 => ?_⟩
  ·rw [if_pos e] at q
   refine ⟨_, rfl, zl4, fun l hl => ?_⟩
   have s3 := (Same.upd (o := .lst [V.ref a_ID_RANGE, V.ref a_CARRIER_RANGE, V.ref t, V.ref a_WEIGHT_RANGE]) hl)
   exact q l _ [a_ID_RANGE, a_CARRIER_RANGE, t, a_WEIGHT_RANGE] (s1.free hl) (s1.trans s3) uS (Rgs.cons (q_ID_RANGE _) (Rgs.cons (q_CARRIER_RANGE _) (Rgs.cons (Same.sqT s3 hT) (Rgs.cons (q_WEIGHT_RANGE _) Rgs.nil))))
  rw [if_neg n1] at q
  refine ⟨_, rfl, rfl, _, rfl, iteI (fun e => ?_) fun n2 => ?_⟩
  ·rw [if_pos e] at q
   refine ⟨zl2, fun l hl => ?_⟩
   have s3 := (Same.upd (o := .lst [V.ref a_ID_RANGE, V.ref a_YES_RANGE]) hl)
   exact q l _ [a_ID_RANGE, a_YES_RANGE] (s1.free hl) (s1.trans s3) uS (Rgs.cons (q_ID_RANGE _) (Rgs.cons (q_YES_RANGE _) Rgs.nil))
  rw [if_neg n2] at q
  refine ⟨_, rfl, rfl, _, rfl, iteI (fun e => ?_) fun n3 => ?_⟩
  ·rw [if_pos e] at q
   refine ⟨_, rfl, zl2, fun l hl => ?_⟩
   have s3 := (Same.upd (o := .lst [V.ref a_ID_RANGE, V.ref t]) hl)
   exact q l _ [a_ID_RANGE, t] (s1.free hl) (s1.trans s3) uS (Rgs.cons (q_ID_RANGE _) (Rgs.cons (Same.sqT s3 hT) Rgs.nil))
  rw [if_neg n3] at q
  have one : ∀ {Q' : VK}, RetR K H [(0, 999999)] Q' -> ∀ l, (upd H t (.tup [.int 0, .int 52595999])) l = none -> Q' (.ref l) (upd (upd H t (.tup [.int 0, .int 52595999])) l (.lst [V.ref a_ID_RANGE])) := fun q l hl =>
   q l _ [a_ID_RANGE] (s1.free hl) (s1.trans (Same.upd hl)) uS (Rgs.cons (q_ID_RANGE _) Rgs.nil)
  have oneC : ∀ {Q' : VK}, RetR K H [(0, 675)] Q' -> ∀ l, (upd H t (.tup [.int 0, .int 52595999])) l = none -> Q' (.ref l) (upd (upd H t (.tup [.int 0, .int 52595999])) l (.lst [V.ref a_CARRIER_RANGE])) := fun q l hl =>
   q l _ [a_CARRIER_RANGE] (s1.free hl) (s1.trans (Same.upd hl)) uS (Rgs.cons (q_CARRIER_RANGE _) Rgs.nil)
  refine ⟨_, rfl, rfl, _, rfl, iteI (fun e => ?_) fun n4 => ?_⟩
  ·rw [if_pos e] at q
   exact ⟨zl1, fun l hl => one q l hl⟩
  rw [if_neg n4] at q
  refine ⟨_, rfl, rfl, _, rfl, iteI (fun e => ?_) fun n11 => ?_⟩
  ·rw [if_pos e] at q
   exact ⟨zl1, fun l hl => one q l hl⟩
  rw [if_neg n11] at q
  refine ⟨_, rfl, rfl, _, rfl, iteI (fun e => ?_) fun n7 => ?_⟩
  ·rw [if_pos e] at q
   refine ⟨zl2, fun l hl => ?_⟩
   exact q l _ [a_ID_RANGE, a_ID_RANGE] (s1.free hl) (s1.trans (Same.upd hl)) uS (Rgs.cons (q_ID_RANGE _) (Rgs.cons (q_ID_RANGE _) Rgs.nil))
  rw [if_neg n7] at q
  refine ⟨_, rfl, rfl, _, rfl, iteI (fun e => ?_) fun n9 => ?_⟩
  ·rw [if_pos e] at q
   refine ⟨zl4, fun l hl => ?_⟩
   exact q l _ [a_ID_RANGE, a_ID_RANGE, a_ID_RANGE, a_ID_RANGE] (s1.free hl) (s1.trans (Same.upd hl)) uS (Rgs.cons (q_ID_RANGE _) (Rgs.cons (q_ID_RANGE _) (Rgs.cons (q_ID_RANGE _) (Rgs.cons (q_ID_RANGE _) Rgs.nil))))
  rw [if_neg n9] at q
  refine ⟨_, rfl, rfl, _, rfl, iteI (fun e => ?_) fun n8 => ?_⟩
  ·rw [if_pos e] at q
   exact ⟨zl1, fun l hl => oneC q l hl⟩
  rw [if_neg n8] at q
  refine ⟨_, rfl, rfl, _, rfl, iteI (fun e => ?_) fun n13 => ?_⟩
  ·rw [if_pos e] at q
   exact ⟨zl1, fun l hl => oneC q l hl⟩
  rw [if_neg n13] at q
  refine ⟨_, rfl, rfl, _, rfl, iteI (fun e => ?_) fun n10 => ?_⟩
  ·rw [if_pos e] at q
   refine ⟨zl2, fun t2 ht2 => ⟨zl1, fun l hl => ?_⟩⟩
   have s2 := (Same.upd (o := .tup [.int 1, .int 120]) ht2)
   have s3 := (Same.upd (o := .lst [V.ref t2]) hl)
   exact q l _ [t2] (s1.free (s2.free hl)) ((s1.trans s2).trans s3) uS (Rgs.cons (Same.sqT s3 (SqT.of uS)) Rgs.nil)
  rw [if_neg n10] at q
  refine ⟨_, rfl, zl5, fun t2 ht2 => ?_⟩
  have s2 := (Same.upd (o := .tup [.int 5, .int 6, .int 12, .int 14, .int 17]) ht2)
  refine ⟨t2, _, rfl, .inr (SqT.of uS), rfl, rfl, _, rfl, ?_⟩
  rw [if_neg Bool.false_ne_true]
  have ein : inV (V.int i) [.int 5, .int 6, .int 12, .int 14, .int 17] = true := by
   have := in_ints i [5, 6, 12, 14, 17]
   rw [show ([5, 6, 12, 14, 17] : List Int).map V.int = [.int 5, .int 6, .int 12, .int 14, .int 17] from rfl] at this
   rw [this, List.contains_iff_mem]
   simp only [List.mem_cons, List.not_mem_nil, or_false]
   omega
  rw [ein]
  refine ⟨Nat.zero_le _, fun l hl => ?_⟩
  exact q l _ [] (s1.free (s2.free hl)) ((s1.trans s2).trans (Same.upd hl)) uS Rgs.nil
theorem sc_fits : FSc ["call", "numbers"] ["call", "numbers"] (dSc s_fits) := ⟨rfl, rfl, rfl, by decide +kernel, rfl, by decide +kernel, by decide +kernel⟩
def sp_fits (K : PySem.W.Frag) : Sp := fun vs H Q _ => ∃ (k : Call) (n : Addr), vs = [.int (num k), .ref n] /\ H n = some (.lst ((nums k).map V.int)) /\ Ask k /\ ∀ H', Same H H' -> Q (.bl (Vbahas.inRange k)) H'
theorem ok_fits (T : Txt K mg c) (D : DefAt K mg "fits" s_fits ["call", "numbers"]) (O_has_row : Ok P w K mg base 1 "has_row" ["call"] sp_has_row) (O_all_in_range : Ok P w K mg base 1 "all_in_range" ["numbers", "ranges"] (sp_all_in_range K)) (O_row_range_of : Ok P w K mg base 1 "row_range_of" ["call"] (sp_row_range_of K)) (O_ranges_of : Ok P w K mg base 1 "ranges_of" ["call"] (sp_ranges_of K)) :
  Ok P w K mg base 2 "fits" ["call", "numbers"] (sp_fits K) := by
 refine mkOk D sc_fits (fun vs H Q E h => ?_) fun f cdv A outer s H vs Q E hr h => ?_
 ·obtain ⟨k, n, rfl, _⟩ := h; rfl
 ·obtain ⟨k, n, rfl, hn, hask, q⟩ := h
  refine ⟨_, (bC (ps_if (pt_val (pe_fn O_has_row hr rfl (aC (pv 0) aN))) (bO (pRt (pe_and (pe_cmpR op_le (pe_callB cLn (by rfl) T.b_len PySem.boot_len (aC (pv 1) aN)) (gIn T.c_MOST_IN_A_ROW rfl) (nMk _)) (pe_one (pe_fn O_all_in_range hr rfl (aC (pv 1) (aC (pe_op op_rep (pe_lst (aC (pe_fn O_row_range_of hr rfl (aC (pv 0) aN)) aN)) (pe_callB cLn (by rfl) T.b_len PySem.boot_len (aC (pv 1) aN))) aN))))))) bN)
   (bO (pRt (pe_fn O_all_in_range hr rfl (aC (pv 1) (aC (pe_fn O_ranges_of hr rfl (aC (pv 0) aN)) aN)))))), ?_⟩
  refine ⟨_, rfl, num k, rfl, _, rfl, ?_⟩
  have rowcase : ∀ l : List Int, nums k = l -> l.length <= 100 -> Vbahas.inRange k = (decide (l.length <= 60) && l.all fun x => inR x (rowR (num k))) -> tRet (tAndV (tOp (rI0 fun i j => .bl (decide (i <= j))) (tCB (fun xs H Q => ∃ p ys, xs = [.ref p] /\ (SqL K H p ys \/ SqT K H p ys) /\ Q (.int ys.length) H) (tCons (tVar 1) tNil)) (tC (.int 60))) (tCall (sp_all_in_range K) [] E0 (tCons (tVar 1) (tCons (tOp rRep (tLst (tCons (tCall (sp_row_range_of K) [] E0 (tCons (tVar 0) tNil)) tNil)) (tCB (fun xs H Q => ∃ p ys, xs = [.ref p] /\ (SqL K H p ys \/ SqT K H p ys) /\ Q (.int ys.length) H) (tCons (tVar 1) tNil))) tNil)))) { nx := fun _ H' => Q .non H', rt := Q } (start ["call", "numbers"] [.int (num k), .ref n]) H := fun l hl h100 hin => by
   rw [hl] at hn
   refine ⟨_, rfl, n, _, rfl, .inl (SqL.of hn), _, _, rfl, rfl, _, rfl, ?_⟩
   rw [List.length_map]
   by_cases h60 : l.length <= 60
   case neg =>
    rw [decide_eq_false (show ¬ ((l.length : Int) <= 60) by omega)]
    have := q H (Same.refl H)
    rw [hin, decide_eq_false h60, Bool.false_and] at this
    exact this
   rw [decide_eq_true (show ((l.length : Int) <= 60) by omega)]
   refine ⟨_, rfl, _, rfl, num k, rfl, fun a H1 s1 ha => ⟨zl1, fun l1 hl1 => ?_⟩⟩
   have s2 := s1.trans (Same.upd (o := .lst [V.ref a]) hl1)
   refine ⟨_, rfl, n, _, rfl, .inl (SqL.of (s2 _ _ hn)), l1, _, _, rfl, rfl, uS, ?_, ?_, ?_, fun l3 hl3 => ?_⟩
   ·rw [List.length_map]; omega
   ·rw [List.length_map]; omega
   ·rw [List.length_map]
    refine line1000 ?_
    show 1 * _ <= 1000
    omega
   ·have en : (((l.map V.int).length : Nat) : Int).toNat = l.length := by rw [List.length_map]; omega
    rw [en, rep_one]
    have s3 := Same.upd (o := .lst ((List.replicate l.length a).map V.ref)) hl3
    refine ⟨n, l3, l, List.replicate l.length a, List.replicate l.length (rowR (num k)), rfl, s3 _ _ (s2 _ _ hn), uS, Rgs.rep (Same.sqT ((Same.upd hl1).trans s3) ha) _, by rw [List.length_replicate], fun H4 s4 => ?_⟩
    have := q H4 ((s2.trans s3).trans s4)
    rw [hin, decide_eq_true h60, Bool.true_and, <- allR_rep] at this
    exact this
  rcases rowB_cases k with ⟨hb, ⟨l, rfl⟩ | ⟨l, rfl⟩⟩ | ⟨hb, hnum, hlen, hall⟩
  ·exact rowcase l rfl hask rfl
  ·exact rowcase l rfl hask rfl
  ·unfold rowB at hb
   rw [hb]
   rw [Bool.or_eq_false_iff] at hb
   have n15 : num k ≠ 15 := of_decide_eq_false hb.1
   have n16 : num k ≠ 16 := of_decide_eq_false hb.2
   obtain ⟨r0, r17⟩ := num_range k
   rw [hnum] at hn
   refine ⟨_, rfl, _, rfl, num k, rfl, r0, r17, n15, n16, fun l1 H1 as hl1 s1 e1 hR => ?_⟩
   refine ⟨n, l1, args k, as, rgN (num k), rfl, s1 _ _ hn, e1, hR, hlen, fun H2 s2 => ?_⟩
   rw [hall]
   exact q H2 (s1.trans s2)
end
end SHP
end
section
namespace SHP
open PySem PySem.Spec PyProof.Rows L2 SH
open Vbahas (Slot Flight State Call)
section
variable {P : Program} {w : World} {K : PySem.W.Frag} {mg : Str -> Option Value} {base : Heap} {c : Cs}
theorem sc_answer_question : FSc ["house", "call", "numbers"] ["house", "call", "numbers"] (dSc s_answer_question) := ⟨rfl, rfl, rfl, by decide +kernel, rfl, by decide +kernel, by decide +kernel⟩
def sp_answer_question (c : Cs) : Sp := fun vs H Q _ => ∃ (k : Hs) (s : State) (n : Addr) (x : Call), vs = [.ref k.h, .int (num x), .ref n] /\ Sta c H k s /\ H n = some (.lst ((nums x).map V.int)) /\ Vbahas.inRange x = true /\ 11 <= num x /\ Ans c H k (Vbahas.step s x) Q
theorem ok_answer_question (T : Txt K mg c) (D : DefAt K mg "answer_question" s_answer_question ["house", "call", "numbers"]) (O_tell_slot : Ok P w K mg base 4 "tell_slot" ["house", "number"] (sp_tell_slot c)) (O_tell_table : Ok P w K mg base 2 "tell_table" ["house"] (sp_tell_table c)) (O_tell_carrier : Ok P w K mg base 4 "tell_carrier" ["house", "carrier"] (sp_tell_carrier c))
  (O_tell_total : Ok P w K mg base 4 "tell_total" ["house"] (sp_tell_total c)) (O_queue : Ok P w K mg base 4 "queue" ["house", "numbers"] (sp_queue c)) (O_rival : Ok P w K mg base 3 "rival" ["house", "places"] (sp_rival c)) (O_tell_open : Ok P w K mg base 3 "tell_open" ["house"] (sp_tell_open c)) :
  Ok P w K mg base 5 "answer_question" ["house", "call", "numbers"] (sp_answer_question c) := by
 refine mkOk D sc_answer_question (fun vs H Q E h => ?_) fun f cdv A outer s H vs Q E hr h => ?_
 ·obtain ⟨k, s, n, x, rfl, _⟩ := h; rfl
 ·obtain ⟨k, s, n, x, rfl, hS, hn, hin, h11, q⟩ := h
  refine ⟨_, (bC (ps_if (tCm op_eq (pv 1) (gIn T.c_SLOT rfl) (nMk _)) (bO (pRt (pe_fn O_tell_slot hr rfl (aC (pv 0) (aC (pe_ix iXl (pv 2) pe_int (fun _ _ => rfl)) aN))))) bN)
   (bC (ps_if (tCm op_eq (pv 1) (gIn T.c_TABLE rfl) (nMk _)) (bO (pRt (pe_fn O_tell_table hr rfl (aC (pv 0) aN)))) bN)
   (bC (ps_if (tCm op_eq (pv 1) (gIn T.c_CARRIER rfl) (nMk _)) (bO (pRt (pe_fn O_tell_carrier hr rfl (aC (pv 0) (aC (pe_ix iXl (pv 2) pe_int (fun _ _ => rfl)) aN))))) bN)
   (bC (ps_if (tCm op_eq (pv 1) (gIn T.c_TOTAL rfl) (nMk _)) (bO (pRt (pe_fn O_tell_total hr rfl (aC (pv 0) aN)))) bN)
   (bC (ps_if (tCm op_eq (pv 1) (gIn T.c_QUEUE rfl) (nMk _)) (bO (pRt (pe_fn O_queue hr rfl (aC (pv 0) (aC (pv 2) aN))))) bN)
   (bC (ps_if (tCm op_eq (pv 1) (gIn T.c_RIVAL rfl) (nMk _)) (bO (pRt (pe_fn O_rival hr rfl (aC (pv 0) (aC (pv 2) aN))))) bN)
   (bO (pRt (pe_fn O_tell_open hr rfl (aC (pv 0) aN)))))))))), ?_⟩
  refine ⟨_, rfl, rfl, _, rfl, iteI (fun e => ?_) fun n11 => ?_⟩
  ·obtain ⟨i, rfl⟩ : ∃ i, x = .slot i := by cases x <;> first | exact ⟨_, rfl⟩ | (simp [num] at e)
   exact ⟨_, rfl, _, rfl, n, _, _, _, rfl, rfl, SqL.of hn, at_of (j := 0) rfl rfl, k, s, i, rfl, hS, q⟩
  refine ⟨_, rfl, rfl, _, rfl, iteI (fun e => ?_) fun n12 => ?_⟩
  ·obtain rfl : x = .table := by cases x <;> first | rfl | (simp [num] at e)
   exact ⟨_, rfl, k, s, rfl, hS, q⟩
  refine ⟨_, rfl, rfl, _, rfl, iteI (fun e => ?_) fun n13 => ?_⟩
  ·obtain ⟨cc, rfl⟩ : ∃ cc, x = .carrier cc := by cases x <;> first | exact ⟨_, rfl⟩ | (simp [num] at e)
   exact ⟨_, rfl, _, rfl, n, _, _, _, rfl, rfl, SqL.of hn, at_of (j := 0) rfl rfl, k, s, cc, rfl, hS, (by simp only [Vbahas.inRange, Vbahas.carrierIn, within_iff] at hin; exact hin.1), q⟩
  refine ⟨_, rfl, rfl, _, rfl, iteI (fun e => ?_) fun n14 => ?_⟩
  ·obtain rfl : x = .total := by cases x <;> first | rfl | (simp [num] at e)
   exact ⟨_, rfl, k, s, rfl, hS, q⟩
  refine ⟨_, rfl, rfl, _, rfl, iteI (fun e => ?_) fun n15 => ?_⟩
  ·obtain ⟨l, rfl⟩ : ∃ l, x = .queue l := by cases x <;> first | exact ⟨_, rfl⟩ | (simp [num] at e)
   exact ⟨_, rfl, _, rfl, k, s, n, l, rfl, hS, hn, (by simp only [Vbahas.inRange, Bool.and_eq_true, decide_eq_true_eq] at hin; exact hin.1), q⟩
  refine ⟨_, rfl, rfl, _, rfl, iteI (fun e => ?_) fun n16 => ?_⟩
  ·obtain ⟨l, rfl⟩ : ∃ l, x = .rival l := by cases x <;> first | exact ⟨_, rfl⟩ | (simp [num] at e)
   exact ⟨_, rfl, _, rfl, k, s, n, l, rfl, hS, hn, hin, q⟩
  obtain rfl : x = .open_ := by cases x <;> first | rfl | (simp [num] at h11 n11 n12 n13 n14 n15 n16)
  exact ⟨_, rfl, k, s, rfl, hS, q⟩
theorem sc_answer_call : FSc ["house", "call", "numbers"] ["house", "call", "numbers"] (dSc s_answer_call) := ⟨rfl, rfl, rfl, by decide +kernel, rfl, by decide +kernel, by decide +kernel⟩
def sp_answer_call (c : Cs) : Sp := fun vs H Q _ => ∃ (k : Hs) (s : State) (n : Addr) (x : Call), vs = [.ref k.h, .int (num x), .ref n] /\ Sta c H k s /\ H n = some (.lst ((nums x).map V.int)) /\ Vbahas.inRange x = true /\ Ans c H k (Vbahas.step s x) Q
theorem ok_answer_call (T : Txt K mg c) (D : DefAt K mg "answer_call" s_answer_call ["house", "call", "numbers"]) (O_add_slots : Ok P w K mg base 3 "add_slots" ["house", "first_time", "gap", "how_many"] (sp_add_slots c)) (O_add_flight : Ok P w K mg base 4 "add_flight" ["house", "number", "carrier", "planned", "weight"] (sp_add_flight c))
  (O_set_exempt : Ok P w K mg base 1 "set_exempt" ["house", "number", "yes"] (sp_set_exempt c)) (O_set_ready : Ok P w K mg base 4 "set_ready" ["house", "number", "time"] (sp_set_ready c)) (O_cancel_flight : Ok P w K mg base 4 "cancel_flight" ["house", "number"] (sp_cancel_flight c)) (O_ration : Ok P w K mg base 4 "ration" ["house"] (sp_ration c))
  (O_compress : Ok P w K mg base 4 "compress" ["house"] (sp_compress c)) (O_swap : Ok P w K mg base 4 "swap" ["house", "one", "other"] (sp_swap c)) (O_best : Ok P w K mg base 4 "best" ["house", "carrier"] (sp_best c)) (O_trade : Ok P w K mg base 5 "trade" ["house", "numbers"] (sp_trade c))
  (O_release : Ok P w K mg base 2 "release" ["house", "place"] (sp_release c)) (O_answer_question : Ok P w K mg base 5 "answer_question" ["house", "call", "numbers"] (sp_answer_question c)) : Ok P w K mg base 6 "answer_call" ["house", "call", "numbers"] (sp_answer_call c) := by
 refine mkOk D sc_answer_call (fun vs H Q E h => ?_) fun f cdv A outer s H vs Q E hr h => ?_
 ·obtain ⟨k, s, n, x, rfl, _⟩ := h; rfl
 ·obtain ⟨k, s, n, x, rfl, hS, hn, hin, q⟩ := h
  refine ⟨_, (bC (ps_if (tCm op_eq (pv 1) (gIn T.c_SLOTS rfl) (nMk _)) (bO (pRt (pe_fn O_add_slots hr rfl (aC (pv 0) (aC (pe_ix iXl (pv 2) pe_int (fun _ _ => rfl)) (aC (pe_ix iXl (pv 2) pe_int (fun _ _ => rfl)) (aC (pe_ix iXl (pv 2) pe_int (fun _ _ => rfl)) aN))))))) bN)
   (bC (ps_if (tCm op_eq (pv 1) (gIn T.c_FLIGHT rfl) (nMk _)) (bO (pRt (pe_fn O_add_flight hr rfl (aC (pv 0) (aC (pe_ix iXl (pv 2) pe_int (fun _ _ => rfl)) (aC (pe_ix iXl (pv 2) pe_int (fun _ _ => rfl)) (aC (pe_ix iXl (pv 2) pe_int (fun _ _ => rfl)) (aC (pe_ix iXl (pv 2) pe_int (fun _ _ => rfl)) aN)))))))) bN)
   (bC (ps_if (tCm op_eq (pv 1) (gIn T.c_EXEMPT rfl) (nMk _)) (bO (pRt (pe_fn O_set_exempt hr rfl (aC (pv 0) (aC (pe_ix iXl (pv 2) pe_int (fun _ _ => rfl)) (aC (pe_ix iXl (pv 2) pe_int (fun _ _ => rfl)) aN)))))) bN)
   (bC (ps_if (tCm op_eq (pv 1) (gIn T.c_READY rfl) (nMk _)) (bO (pRt (pe_fn O_set_ready hr rfl (aC (pv 0) (aC (pe_ix iXl (pv 2) pe_int (fun _ _ => rfl)) (aC (pe_ix iXl (pv 2) pe_int (fun _ _ => rfl)) aN)))))) bN)
   (bC (ps_if (tCm op_eq (pv 1) (gIn T.c_CANCEL rfl) (nMk _)) (bO (pRt (pe_fn O_cancel_flight hr rfl (aC (pv 0) (aC (pe_ix iXl (pv 2) pe_int (fun _ _ => rfl)) aN))))) bN)
   (bC (ps_if (tCm op_eq (pv 1) (gIn T.c_RATION rfl) (nMk _)) (bO (pRt (pe_fn O_ration hr rfl (aC (pv 0) aN)))) bN)
   (bC (ps_if (tCm op_eq (pv 1) (gIn T.c_COMPRESS rfl) (nMk _)) (bO (pRt (pe_fn O_compress hr rfl (aC (pv 0) aN)))) bN)
   (bC (ps_if (tCm op_eq (pv 1) (gIn T.c_SWAP rfl) (nMk _)) (bO (pRt (pe_fn O_swap hr rfl (aC (pv 0) (aC (pe_ix iXl (pv 2) pe_int (fun _ _ => rfl)) (aC (pe_ix iXl (pv 2) pe_int (fun _ _ => rfl)) aN)))))) bN)
   (bC (ps_if (tCm op_eq (pv 1) (gIn T.c_BEST rfl) (nMk _)) (bO (pRt (pe_fn O_best hr rfl (aC (pv 0) (aC (pe_ix iXl (pv 2) pe_int (fun _ _ => rfl)) aN))))) bN)
   (bC (ps_if (tCm op_eq (pv 1) (gIn T.c_TRADE rfl) (nMk _)) (bO (pRt (pe_fn O_trade hr rfl (aC (pv 0) (aC (pv 2) aN))))) bN)
   (bC (ps_if (tCm op_eq (pv 1) (gIn T.c_RELEASE rfl) (nMk _)) (bO (pRt (pe_fn O_release hr rfl (aC (pv 0) (aC (pe_ix iXl (pv 2) pe_int (fun _ _ => rfl)) aN))))) bN)
   (bO (pRt (pe_fn O_answer_question hr rfl (aC (pv 0) (aC (pv 1) (aC (pv 2) aN))))))))))))))))), ?_⟩
  refine ⟨_, rfl, rfl, _, rfl, iteI (fun e => ?_) fun n0 => ?_⟩
  ·obtain ⟨a, g, m, rfl⟩ : ∃ a g m, x = .slots a g m := by cases x <;> first | exact ⟨_, _, _, rfl⟩ | (simp [num] at e)
   exact ⟨_, rfl, _, rfl, n, _, _, _, rfl, rfl, SqL.of hn, at_of (j := 0) rfl rfl, _, rfl, n, _, _, _, rfl, rfl, SqL.of hn, at_of (j := 1) rfl rfl, _, rfl, n, _, _, _, rfl, rfl, SqL.of hn, at_of (j := 2) rfl rfl, k, s, a, g, m, rfl, hS, hin, q⟩
  refine ⟨_, rfl, rfl, _, rfl, iteI (fun e => ?_) fun n1 => ?_⟩
  ·obtain ⟨i, cc, t, wt, rfl⟩ : ∃ i cc t wt, x = .flight i cc t wt := by cases x <;> first | exact ⟨_, _, _, _, rfl⟩ | (simp [num] at e)
   exact ⟨_, rfl, _, rfl, n, _, _, _, rfl, rfl, SqL.of hn, at_of (j := 0) rfl rfl, _, rfl, n, _, _, _, rfl, rfl, SqL.of hn, at_of (j := 1) rfl rfl, _, rfl, n, _, _, _, rfl, rfl, SqL.of hn, at_of (j := 2) rfl rfl, _, rfl, n, _, _, _, rfl, rfl, SqL.of hn, at_of (j := 3) rfl rfl, k, s, i, cc, t, wt, rfl, hS, hin, q⟩
  refine ⟨_, rfl, rfl, _, rfl, iteI (fun e => ?_) fun n2 => ?_⟩
  ·obtain ⟨i, y, rfl⟩ : ∃ i y, x = .exempt i y := by cases x <;> first | exact ⟨_, _, rfl⟩ | (simp [num] at e)
   exact ⟨_, rfl, _, rfl, n, _, _, _, rfl, rfl, SqL.of hn, at_of (j := 0) rfl rfl, _, rfl, n, _, _, _, rfl, rfl, SqL.of hn, at_of (j := 1) rfl rfl, k, s, i, y, rfl, hS, hin, q⟩
  refine ⟨_, rfl, rfl, _, rfl, iteI (fun e => ?_) fun n3 => ?_⟩
  ·obtain ⟨i, t, rfl⟩ : ∃ i t, x = .ready i t := by cases x <;> first | exact ⟨_, _, rfl⟩ | (simp [num] at e)
   exact ⟨_, rfl, _, rfl, n, _, _, _, rfl, rfl, SqL.of hn, at_of (j := 0) rfl rfl, _, rfl, n, _, _, _, rfl, rfl, SqL.of hn, at_of (j := 1) rfl rfl, k, s, i, t, rfl, hS, hin, q⟩
  refine ⟨_, rfl, rfl, _, rfl, iteI (fun e => ?_) fun n4 => ?_⟩
  ·obtain ⟨i, rfl⟩ : ∃ i, x = .cancel i := by cases x <;> first | exact ⟨_, rfl⟩ | (simp [num] at e)
   exact ⟨_, rfl, _, rfl, n, _, _, _, rfl, rfl, SqL.of hn, at_of (j := 0) rfl rfl, k, s, i, rfl, hS, hin, q⟩
  refine ⟨_, rfl, rfl, _, rfl, iteI (fun e => ?_) fun n5 => ?_⟩
  ·obtain rfl : x = .ration := by cases x <;> first | rfl | (simp [num] at e)
   exact ⟨_, rfl, k, s, rfl, hS, q⟩
  refine ⟨_, rfl, rfl, _, rfl, iteI (fun e => ?_) fun n6 => ?_⟩
  ·obtain rfl : x = .compress := by cases x <;> first | rfl | (simp [num] at e)
   exact ⟨_, rfl, k, s, rfl, hS, q⟩
  refine ⟨_, rfl, rfl, _, rfl, iteI (fun e => ?_) fun n7 => ?_⟩
  ·obtain ⟨a, b, rfl⟩ : ∃ a b, x = .swap a b := by cases x <;> first | exact ⟨_, _, rfl⟩ | (simp [num] at e)
   exact ⟨_, rfl, _, rfl, n, _, _, _, rfl, rfl, SqL.of hn, at_of (j := 0) rfl rfl, _, rfl, n, _, _, _, rfl, rfl, SqL.of hn, at_of (j := 1) rfl rfl, k, s, a, b, rfl, hS, q⟩
  refine ⟨_, rfl, rfl, _, rfl, iteI (fun e => ?_) fun n8 => ?_⟩
  ·obtain ⟨cc, rfl⟩ : ∃ cc, x = .best cc := by cases x <;> first | exact ⟨_, rfl⟩ | (simp [num] at e)
   exact ⟨_, rfl, _, rfl, n, _, _, _, rfl, rfl, SqL.of hn, at_of (j := 0) rfl rfl, k, s, cc, rfl, hS, (by simp only [Vbahas.inRange, Vbahas.carrierIn, within_iff] at hin; exact hin.1), q⟩
  refine ⟨_, rfl, rfl, _, rfl, iteI (fun e => ?_) fun n9 => ?_⟩
  ·obtain ⟨a, b, cc, d, rfl⟩ : ∃ a b cc d, x = .trade a b cc d := by cases x <;> first | exact ⟨_, _, _, _, rfl⟩ | (simp [num] at e)
   exact ⟨_, rfl, _, rfl, k, s, n, a, b, cc, d, rfl, hS, hn, q⟩
  refine ⟨_, rfl, rfl, _, rfl, iteI (fun e => ?_) fun n10 => ?_⟩
  ·obtain ⟨p, rfl⟩ : ∃ p, x = .release p := by cases x <;> first | exact ⟨_, rfl⟩ | (simp [num] at e)
   exact ⟨_, rfl, _, rfl, n, _, _, _, rfl, rfl, SqL.of hn, at_of (j := 0) rfl rfl, k, s, p, rfl, hS, hin, q⟩
  have h11 : 11 <= num x := by
   have := (num_range x).1
   omega
  exact ⟨_, rfl, _, rfl, _, rfl, k, s, n, x, rfl, hS, hn, hin, h11, q⟩
end
end SHP
end
section
namespace SHP
open PySem PySem.Spec PyProof.Rows L2 SH
open Vbahas (Slot Flight State Call)
theorem call_at {ks : List Call} {i : Nat} {x : Call} (hk : ks[i]? = some x) : ∃ pre post : List Int, ks.flatMap flat = pre ++ (nums x ++ post) /\ pre.length = ((ks.take i).flatMap flat).length + (if rowB x = true then 2 else 1) /\
  ((ks.take (i + 1)).flatMap flat).length = pre.length + (nums x).length /\ (ks.flatMap flat)[((ks.take i).flatMap flat).length]? = some (num x) /\ (rowB x = true -> (ks.flatMap flat)[((ks.take i).flatMap flat).length + 1]? = some ((nums x).length : Int)) := by
 have h1 := flat_split hk
 have h2 := flat_take hk
 have h3 : (ks.flatMap flat)[((ks.take i).flatMap flat).length]? = some (num x) := by
  rw [h1, List.getElem?_append_right (Nat.le_refl _), Nat.sub_self]; rfl
 have row : ∀ l : List Int, nums x = l -> args x = (l.length : Int) :: l -> rowB x = true -> _ := fun l e1 e2 hb => by
  refine (⟨(ks.take i).flatMap flat ++ [num x, (l.length : Int)], (ks.drop (i + 1)).flatMap flat, ?_, ?_, ?_, h3, fun _ => ?_⟩ : ∃ pre post : List Int, ks.flatMap flat = pre ++ (nums x ++ post) /\ pre.length = ((ks.take i).flatMap flat).length + (if rowB x = true then 2 else 1) /\
  ((ks.take (i + 1)).flatMap flat).length = pre.length + (nums x).length /\ (ks.flatMap flat)[((ks.take i).flatMap flat).length]? = some (num x) /\ (rowB x = true -> (ks.flatMap flat)[((ks.take i).flatMap flat).length + 1]? = some ((nums x).length : Int)))
  ·rw [h1, e2, e1]; simp
  ·rw [if_pos hb, List.length_append]; rfl
  ·rw [h2, e2, e1, List.length_append, List.length_append]
   show _ + (l.length + 1 + 1) = _ + 2 + _
   omega
  ·rw [h1, e1, e2, List.getElem?_append_right (by omega), Nat.add_sub_cancel_left]; rfl
 rcases rowB_cases x with ⟨hb, ⟨l, rfl⟩ | ⟨l, rfl⟩⟩ | ⟨hb, hnum, hlen, hall⟩
 ·exact row l rfl rfl hb
 ·exact row l rfl rfl hb
 ·refine ⟨(ks.take i).flatMap flat ++ [num x], (ks.drop (i + 1)).flatMap flat, ?_, ?_, ?_, h3, fun z => by rw [hb] at z; cases z⟩
  ·rw [h1, hnum]; simp
  ·rw [if_neg (by rw [hb]; decide), List.length_append]; rfl
  ·rw [h2, hnum, List.length_append, List.length_append]
   show _ + ((args x).length + 1) = _ + 1 + _
   omega
abbrev rLen (K : PySem.W.Frag) : List V -> Hp -> VK -> Prop := fun xs H Q => ∃ p ys, xs = [.ref p] /\ (SqL K H p ys \/ SqT K H p ys) /\ Q (.int ys.length) H
abbrev rAdd : R2 := rI0 fun i j => .int (i + j)
section
variable {K : PySem.W.Frag} {c : Cs}
theorem read_count {ks : List Call} {i : Nat} {x : Call} (hk : ks[i]? = some x) {H : Hp} {a : Addr} {σ : L2.St} {Q : VK} (h0 : σ[0]? = some (some (.ref a))) (h3 : σ[3]? = some (some (.int ((ks.take i).flatMap flat).length))) (h4 : σ[4]? = some (some (.int (num x)))) (hl : SqL K H a ((ks.flatMap flat).map V.int))
  (q : ∀ H', Same H H' -> Q (.int (nums x).length) H') :
  tIf (tB (tCall sp_has_row [] E0 (tCons (tVar 4) tNil))) (tOp (rIxL K) (tVar 0) (tOp rAdd (tVar 3) (tC (.int 1)))) (tCB (rLen K) (tCons (tCall (sp_ranges_of K) [] E0 (tCons (tVar 4) tNil)) tNil)) σ H Q := by
 obtain ⟨pre, post, e1, e2, e3, e4, e5⟩ := call_at hk
 refine ⟨_, h4, num x, rfl, _, rfl, ?_⟩
 rcases rowB_cases x with ⟨hb, _⟩ | ⟨hb, hnum, hlen, hall⟩
 ·have e5 := e5 hb
  unfold rowB at hb
  rw [hb]
  refine ⟨_, h0, _, h3, _, _, rfl, rfl, a, _, _, _, rfl, rfl, hl, at_of (j := ((ks.take i).flatMap flat).length + 1) (v := .int (nums x).length) (by omega) (by rw [List.getElem?_map, e5]; rfl), q H (Same.refl H)⟩
 ·unfold rowB at hb
  rw [hb]
  rw [Bool.or_eq_false_iff] at hb
  have n15 : num x ≠ 15 := of_decide_eq_false hb.1
  have n16 : num x ≠ 16 := of_decide_eq_false hb.2
  obtain ⟨r0, r17⟩ := num_range x
  refine ⟨_, h4, num x, rfl, r0, r17, n15, n16, fun l1 H1 as hl1 s1 e1' hR => ⟨l1, _, rfl, .inl (SqL.of e1'), ?_⟩⟩
  have : (as.map V.ref).length = (nums x).length := by rw [List.length_map, hR.1, hnum, hlen]
  rw [this]
  exact q H1 s1
theorem read_begin {x : Call} {m : Nat} {H : Hp} {σ : L2.St} {Q : VK} (h3 : σ[3]? = some (some (.int m))) (h4 : σ[4]? = some (some (.int (num x)))) (q : Q (.int ((m + (if rowB x = true then 2 else 1) : Nat) : Int)) H) :
  tIf (tB (tCall sp_has_row [] E0 (tCons (tVar 4) tNil))) (tOp rAdd (tVar 3) (tC (.int 2))) (tOp rAdd (tVar 3) (tC (.int 1))) σ H Q := by
 refine ⟨_, h4, num x, rfl, _, rfl, ?_⟩
 cases hb : rowB x with
 | true =>
  have hb' := hb
  unfold rowB at hb'
  rw [hb']
  rw [if_pos hb] at q
  exact ⟨_, h3, _, _, rfl, rfl, q⟩
 | false =>
  have hb' := hb
  unfold rowB at hb'
  rw [hb']
  rw [if_neg (by rw [hb]; decide)] at q
  exact ⟨_, h3, _, _, rfl, rfl, q⟩
theorem read_answer {x : Call} (hask : Ask x) {k : Hs} {s : State} {n : Addr} {H : Hp} {σ : L2.St} {Q : VK} (h1 : σ[1]? = some (some (.ref k.h))) (h4 : σ[4]? = some (some (.int (num x)))) (h7 : σ[7]? = some (some (.ref n))) (hS : Sta c H k s) (hn : H n = some (.lst ((nums x).map V.int)))
  (q : ∀ H', Same H H' -> Ans c H' k (stepC s x) Q) :
  tIf (tB (tCall (sp_fits K) [] E0 (tCons (tVar 4) (tCons (tVar 7) tNil)))) (tCall (sp_answer_call c) [] E0 (tCons (tVar 1) (tCons (tVar 4) (tCons (tVar 7) tNil)))) (tLst (tCons (tC (.int (-2))) tNil)) σ H Q := by
 refine ⟨_, h4, _, h7, x, n, rfl, hn, hask, fun H1 s1 => ⟨_, rfl, ?_⟩⟩
 have q1 := q H1 s1
 have hS1 := hS.same s1
 unfold stepC at q1
 cases hin : Vbahas.inRange x with
 | true =>
  rw [if_pos hin] at q1
  exact ⟨_, h1, _, h4, _, h7, k, s, n, x, rfl, hS1, s1 _ _ hn, hin, q1⟩
 | false =>
  rw [if_neg (by rw [hin]; decide)] at q1
  exact ⟨zl1, (q1.ro hS1 rfl (Same.refl H1)).of (Same.refl H1)⟩
end
section
variable {P : Program} {w : World} {K : PySem.W.Frag} {mg : Str -> Option Value} {base : Heap} {c : Cs}
theorem sc_answers : FSc ["calls", "house", "told", "at", "call", "count", "begin", "numbers", "answer"] ["calls"] (dSc s_answers) := ⟨rfl, rfl, rfl, by decide +kernel, rfl, by decide +kernel, by decide +kernel⟩
def sp_answers (K : PySem.W.Frag) : Sp := fun vs H Q _ => ∃ (a : Addr) (l : List Int), vs = [.ref a] /\ SqL K H a (l.map V.int) /\ PyVbahas.answers_asked l = true /\ ∀ H' p, H' p = some (.lst ((PyVbahas.answers l).map V.int)) -> Q (.ref p) H'
structure Run (c : Cs) (H H5 : Hp) (h0 lt : Addr) (ks : List Call) (i : Nat) (k : Hs) : Prop where
 hk : k.h = h0
 st : Sta c H5 k (endC Vbahas.start (ks.take i))
 sm : Same H H5
 tl : H5 lt = some (.lst ((PyFlat.told (runC Vbahas.start (ks.take i))).map V.int))
 nf : ¬ k.foot lt
 new : ∀ b, k.foot b -> H b = none
 ln : H lt = none
def atOf (σ : L2.St) : Int := match (σ[3]? : Option (Option V)) with
 | some (some (V.int z)) => z
 | _ => 0
theorem ok_answers {f : Addr} {fd : FuncData} (T : Txt K mg c) (F : Fun K "answers" "answers" s_answers f fd) (O_House : MkOk P w K mg base 1 "House" c.H ["self"] (sp_House c)) (O_has_row : Ok P w K mg base 1 "has_row" ["call"] sp_has_row) (O_ranges_of : Ok P w K mg base 1 "ranges_of" ["call"] (sp_ranges_of K)) (O_fits : Ok P w K mg base 2 "fits" ["call", "numbers"] (sp_fits K))
  (O_answer_call : Ok P w K mg base 6 "answer_call" ["house", "call", "numbers"] (sp_answer_call c)) : FnOk P w K mg base CX0 7 f fd ["calls"] (sp_answers K) := by
 refine F.ok sc_answers (fun vs H Q E h => ?_) fun cdv A outer s H vs Q E hr h => ?_
 ·obtain ⟨a, l, rfl, _⟩ := h; rfl
 ·obtain ⟨a, l, rfl, hl, hask, q⟩ := h
  have nd := sc_answers.nd
  obtain ⟨ks, rfl, h200, hks, eans⟩ := asked_calls hask
  rw [eans] at q
  refine ⟨_, (bC (ps_set (i := 1) nd rfl (by first | exact Or.inl rfl | exact Or.inr rfl) (pe_new0 O_House hr rfl))
   (bC (ps_set (i := 2) nd rfl (by first | exact Or.inl rfl | exact Or.inr rfl) (pe_lst aN))
   (bC (ps_set (i := 3) nd rfl (by first | exact Or.inl rfl | exact Or.inr rfl) pe_int)
   (bC (ps_while PassesOwn.never (tCm op_lt (pv 3) (pe_callB cLn (by rfl) T.b_len PySem.boot_len (aC (pv 0) aN)) (nMk _)) (bC (ps_set (i := 4) nd rfl (by first | exact Or.inl rfl | exact Or.inr rfl) (pe_ix iXl (pv 0) (pv 3) (fun _ _ => rfl)))
   (bC (ps_set (i := 5) nd rfl (by first | exact Or.inl rfl | exact Or.inr rfl) (pe_ifExp (pt_val (pe_fn O_has_row hr rfl (aC (pv 4) aN))) (pe_ix iXl (pv 0) (pe_op op_add (pv 3) pe_int) (fun _ _ => rfl)) (pe_callB cLn (by rfl) T.b_len PySem.boot_len (aC (pe_fn O_ranges_of hr rfl (aC (pv 4) aN)) aN))))
   (bC (ps_set (i := 6) nd rfl (by first | exact Or.inl rfl | exact Or.inr rfl) (pe_ifExp (pt_val (pe_fn O_has_row hr rfl (aC (pv 4) aN))) (pe_op op_add (pv 3) pe_int) (pe_op op_add (pv 3) pe_int)))
   (bC (ps_set (i := 7) nd rfl (by first | exact Or.inl rfl | exact Or.inr rfl) (pe_slice sl_list (pv 0) (po_some (pv 6)) (po_some (pe_op op_add (pv 6) (pv 5)))))
   (bC (ps_set (i := 8) nd rfl (by first | exact Or.inl rfl | exact Or.inr rfl) (pe_ifExp (pt_val (pe_fn O_fits hr rfl (aC (pv 4) (aC (pv 7) aN)))) (pe_fn O_answer_call hr rfl (aC (pv 1) (aC (pv 4) (aC (pv 7) aN)))) (pe_lst (aC (gIn T.c_OUT_OF_RANGE rfl) aN))))
   (bC (ps_expr (pe_bm PySem.F.plainAttrs_list PySem.F.slot_list_append PySem.F.type_list_append mt_append (pv 2) (aC (pe_callB cLn (by rfl) T.b_len PySem.boot_len (aC (pv 8) aN)) aN)))
   (bC (ps_expr (pe_bm PySem.F.plainAttrs_list PySem.F.slot_list_extend PySem.F.type_list_extend mt_extend (pv 2) (aC (pv 8) aN)))
   (bO (ps_set (i := 3) nd rfl (by first | exact Or.inl rfl | exact Or.inr rfl) (pe_op op_add (pv 6) (pv 5))))))))))))
   (bO (pRt (pv 2))))))), ?_⟩
  intro x dx nx ndx nex
  refine ⟨x, dx, rfl, uS, fun H1 la da hh hla hda nla nda ho => ⟨rfl, ?_⟩⟩
  have s1 : Same H H1 := fun b o e => ho b o (nN e nx) (by rw [uN (nN e nx), uN (nN e ndx)]; exact e)
  have nla0 : H la = none := by
   by_cases z : la = x
   ·rw [z]; exact nx
   ·by_cases z2 : la = dx
    ·rw [z2]; exact ndx
    ·rw [uN z, uN z2] at nla; exact nla
  have nda0 : H da = none := by
   by_cases z : da = x
   ·rw [z]; exact nx
   ·by_cases z2 : da = dx
    ·rw [z2]; exact ndx
    ·rw [uN z, uN z2] at nda; exact nda
  have A1 : At c H1 ⟨x, la, da, [], [], false⟩ := ⟨hh, hla, hda, fun y hy => (List.not_mem_nil hy).elim, fun y hy => (List.not_mem_nil hy).elim, List.nodup_nil, List.nodup_nil⟩
  have S1 : Sta c H1 ⟨x, la, da, [], [], false⟩ Vbahas.start := ⟨A1, rfl, rfl, List.Perm.refl _, start_wf⟩
  refine ⟨Nat.zero_le _, fun lt hlt => ?_⟩
  have s2 : Same H1 (upd H1 lt (.lst [])) := Same.upd hlt
  have hlt0 : H lt = none := s1.free hlt
  have R0 : Run c H (upd H1 lt (.lst [])) x lt ks 0 ⟨x, la, da, [], [], false⟩ := by
   refine ⟨rfl, S1.same s2, s1.trans s2, uS, foot_none S1 hlt, fun b hb => ?_, hlt0⟩
   rcases hb with z | z | z | z | z
   ·rw [z]; exact nx
   ·rw [z]; exact nla0
   ·rw [z]; exact nda0
   ·exact (List.not_mem_nil z).elim
   ·exact (List.not_mem_nil z).elim
  refine while_by (fun σ H5 => ∃ i k v4 v5 v6 v7 v8, i <= ks.length /\ σ = [some (.ref a), some (.ref x), some (.ref lt), some (.int ((ks.take i).flatMap flat).length), v4, v5, v6, v7, v8] /\ Run c H H5 x lt ks i k) (fun σ _ => (((ks.flatMap flat).length : Int) - atOf σ).toNat) ⟨0, _, none, none, none, none, none, Nat.zero_le _, rfl, R0⟩ ?_ ?_
  ·rintro σ H5 ⟨i, k, v4, v5, v6, v7, v8, hi, rfl, R⟩
   have hl5 : SqL K H5 a ((ks.flatMap flat).map V.int) := R.sm.seq hl
   refine ⟨_, rfl, _, rfl, a, _, rfl, .inl hl5, _, _, rfl, rfl, _, rfl, ?_⟩
   rw [List.length_map]
   have hmono : ((ks.take i).flatMap flat).length < (ks.flatMap flat).length ↔ i < ks.length := by
    constructor
    ·intro h
     apply Classical.byContradiction
     intro hn
     rw [List.take_of_length_le (by omega)] at h
     omega
    ·intro h
     obtain ⟨x', hx'⟩ : ∃ x', ks[i]? = some x' := ⟨_, List.getElem?_eq_getElem h⟩
     rw [flat_split hx', List.length_append]
     simp only [List.cons_append, List.length_cons]
     omega
   by_cases hlt : i < ks.length
   case neg =>
    rw [decide_eq_false (show ¬ (((ks.take i).flatMap flat).length : Int) < ((ks.flatMap flat).length : Int) by have := fun z => hlt (hmono.mp z); omega)]
    have hE := R.tl
    rw [List.take_of_length_le (by omega)] at hE
    exact ⟨_, rfl, q H5 lt hE⟩
   rw [decide_eq_true (show (((ks.take i).flatMap flat).length : Int) < ((ks.flatMap flat).length : Int) by have := hmono.mpr hlt; omega)]
   obtain ⟨y, hy⟩ : ∃ y, ks[i]? = some y := ⟨_, List.getElem?_eq_getElem hlt⟩
   obtain ⟨pre, post, e1, e2, e3, e4, e5⟩ := call_at hy
   have hyask : Ask y := hks y (List.mem_of_getElem? hy)
   refine ⟨_, rfl, _, rfl, a, _, _, _, rfl, rfl, hl5, at_of (j := ((ks.take i).flatMap flat).length) (v := .int (num y)) rfl (by rw [List.getElem?_map, e4]; rfl), ?_⟩
   refine read_count hy rfl rfl rfl hl5 fun H6 s6 => ?_
   refine read_begin (x := y) (m := ((ks.take i).flatMap flat).length) rfl rfl ?_
   rw [<- e2]
   have hS6 := R.st.same s6
   refine ⟨_, rfl, _, rfl, _, rfl, _, rfl, _, rfl, _, _, rfl, rfl, _, rfl, a, _, rfl, s6.seq hl5, fun n hn => ?_⟩
   have ecut : cutV ((ks.flatMap flat).map V.int) (some (pre.length : Int)) (some ((pre.length : Int) + ((nums y).length : Int))) = (nums y).map V.int := by
    rw [e1, List.map_append, List.map_append]
    exact cut_mid (by rw [List.length_map]) (by rw [List.length_map, List.length_map]; omega)
   rw [ecut]
   have s7 : Same H6 (upd H6 n (.lst ((nums y).map V.int))) := Same.upd hn
   have s57 := s6.trans s7
   refine read_answer (k := k) hyask (by rw [R.hk]; rfl) rfl rfl (hS6.same s7) uS fun H8 s8 => ?_
   intro k9 H9 la9 S9 F9 e9 nl9 nf9
   have s58 := s57.trans s8
   have Fr := (Fra.same k s58).trans F9
   have elt9 : H9 lt = some (.lst ((PyFlat.told (runC Vbahas.start (ks.take i))).map V.int)) := Fr.out lt _ R.tl R.nf
   have nlt9 : lt ≠ la9 := nN (s58 _ _ R.tl) nl9
   have hbd := runC_all (ks.take i) start_wf
   have hlen := SH.told_len _ hbd
   rw [runC_len, List.length_take] at hlen
   have hal := stepC_len (endC_wf (ks.take i) start_wf) y
   refine ⟨_, rfl, .inl ⟨rfl, _, SqL.of elt9⟩, _, rfl, la9, _, rfl, .inl (SqL.of e9), lt, _, _, rfl, rfl, elt9, ?_, ?_⟩
   ·rw [List.length_map]
    refine Nat.lt_of_le_of_lt (m := 100000) ?_ (by decide)
    omega
   refine ⟨_, rfl, .inl ⟨rfl, _, SqL.of uS⟩, _, rfl, lt, la9, _, _, rfl, rfl, uS, (by rw [uN (Ne.symm nlt9)]; exact e9), ?_, ?_⟩
   ·rw [List.length_append, List.length_map, List.length_map]
    refine Nat.le_trans (m := 100000) ?_ (by decide)
    show _ + 1 + _ <= _
    omega
   have e3' : (pre.length : Int) + ((nums y).length : Int) = (((ks.take (i + 1)).flatMap flat).length : Int) := by rw [e3]; omega
   refine ⟨_, rfl, _, rfl, _, _, rfl, rfl, ?_⟩
   have etk : ks.take (i + 1) = ks.take i ++ [y] := by rw [List.take_add_one, hy]; rfl
   have nf9' : ¬ k9.foot lt := fun z => by
    rcases Fr.new lt z with z | z
    ·exact R.nf z
    ·rw [R.tl] at z; cases z
   refine ⟨⟨i + 1, k9, some (V.int (num y)), some (V.int (nums y).length), some (V.int pre.length), some (V.ref n), some (V.ref la9), hlt, (by rw [<- e3']; rfl), ?_⟩, ?_⟩
   ·have keep : ∀ b o, b ≠ lt -> H9 b = some o -> (upd (upd H9 lt (.lst ((PyFlat.told (runC Vbahas.start (ks.take i))).map V.int ++ [V.int (((stepC (endC Vbahas.start (ks.take i)) y).2.map V.int).length : Int)]))) lt (.lst (((PyFlat.told (runC Vbahas.start (ks.take i))).map V.int ++ [V.int (((stepC (endC Vbahas.start (ks.take i)) y).2.map V.int).length : Int)]) ++ (stepC (endC Vbahas.start (ks.take i)) y).2.map V.int))) b = some o := fun b o hb e => by rw [uN hb, uN hb]; exact e
    refine ⟨Fr.h.trans R.hk, ⟨?_, ?_⟩, fun b o e => ?_, ?_, nf9', fun b hb => ?_, R.ln⟩
    ·exact S9.at_.keep fun b o hb e => keep b o (fun z => nf9' (by rw [<- z]; exact hb)) e
    ·rw [etk, endC_snoc]
     exact S9.rel
    ·refine keep b o (fun z => by rw [z, R.ln] at e; cases e) (Fr.out b o (R.sm b o e) fun z => ?_)
     rw [R.new b z] at e; cases e
    ·rw [uS, etk, runC_snoc, told_snoc, List.map_append, List.map_cons, List.append_assoc, List.length_map]
     rfl
    ·rcases Fr.new b hb with z | z
     ·exact R.new b z
     ·exact R.sm.free z
   ·show ((((ks.flatMap flat).length : Int) - ((pre.length : Int) + ((nums y).length : Int))).toNat) < ((((ks.flatMap flat).length : Int) - (((ks.take i).flatMap flat).length : Int)).toNat)
    have h1 := hmono.mpr hlt
    have h2 : ((ks.take i).flatMap flat).length < ((ks.take (i + 1)).flatMap flat).length := by
     rw [e3, e2]
     split <;> omega
    omega
  ·rintro σ H5 Q1 Q2 hq ⟨v, e, v2, e2, p, ys, e3, hs, i, j, e4, e5, b, e6, q1⟩
   exact ⟨v, e, v2, e2, p, ys, e3, hs, i, j, e4, e5, b, e6, hq _ _ q1⟩
end
end SHP
end
section
namespace SHP
open PySem PySem.Spec PyProof.Rows L2 SH
abbrev AnsAt (K : PySem.W.Frag) (mg : Str -> Option Value) : Prop := ∃ f fd, Fun K "answers" "answers" s_answers f fd /\ mg "answers" = some (.ref f) /\ ∀ (s : Shared) (us : List Value), us.length = (["calls"] : List Str).length -> BindsTo s fd ⟨us, []⟩ ((["calls"] : List Str).zip us)
structure Defs (K : PySem.W.Frag) (mg : Str -> Option Value) : Prop where
 D_slot_at : DefAt K mg "slot_at" s_slot_at ["house", "place"]
 D_all_places : DefAt K mg "all_places" s_all_places ["house"]
 D_may_have : DefAt K mg "may_have" s_may_have ["flight", "slot"]
 D_living_flights : DefAt K mg "living_flights" s_living_flights ["house"]
 D_flights_of : DefAt K mg "flights_of" s_flights_of ["house", "carrier"]
 D_holders : DefAt K mg "holders" s_holders ["house"]
 D_open_places : DefAt K mg "open_places" s_open_places ["house"]
 D_open_places_of : DefAt K mg "open_places_of" s_open_places_of ["house", "owners"]
 D_first_place_from : DefAt K mg "first_place_from" s_first_place_from ["house", "time", "places"]
 D_take_place : DefAt K mg "take_place" s_take_place ["house", "flight", "place"]
 D_lateness : DefAt K mg "lateness" s_lateness ["house", "flight"]
 D_sum_and_greatest : DefAt K mg "sum_and_greatest" s_sum_and_greatest ["late"]
 D_told_lateness : DefAt K mg "told_lateness" s_told_lateness ["house", "flights"]
 D_carrier_cost : DefAt K mg "carrier_cost" s_carrier_cost ["house", "carrier"]
 D_told_slot : DefAt K mg "told_slot" s_told_slot ["house", "flight"]
 D_may_change : DefAt K mg "may_change" s_may_change ["house", "first", "second"]
 D_change_places : DefAt K mg "change_places" s_change_places ["house", "first", "second"]
 D_two_of_one_carrier : DefAt K mg "two_of_one_carrier" s_two_of_one_carrier ["first", "second"]
 D_swap : DefAt K mg "swap" s_swap ["house", "one", "other"]
 D_best_order : DefAt K mg "best_order" s_best_order ["flight"]
 D_first_that_may : DefAt K mg "first_that_may" s_first_that_may ["flights", "slot"]
 D_best : DefAt K mg "best" s_best ["house", "carrier"]
 D_has_row : DefAt K mg "has_row" s_has_row ["call"]
 D_ranges_of : DefAt K mg "ranges_of" s_ranges_of ["call"]
 D_row_range_of : DefAt K mg "row_range_of" s_row_range_of ["call"]
 D_all_in_range : DefAt K mg "all_in_range" s_all_in_range ["numbers", "ranges"]
 D_fits : DefAt K mg "fits" s_fits ["call", "numbers"]
 D_places_in_turn : DefAt K mg "places_in_turn" s_places_in_turn ["house", "flights"]
 D_ration_order : DefAt K mg "ration_order" s_ration_order ["flight"]
 D_give_out : DefAt K mg "give_out" s_give_out ["house", "flights", "places"]
 D_ration : DefAt K mg "ration" s_ration ["house"]
 D_place_of : DefAt K mg "place_of" s_place_of ["flight"]
 D_comer : DefAt K mg "comer" s_comer ["house", "place"]
 D_pass_on : DefAt K mg "pass_on" s_pass_on ["house", "flight", "place"]
 D_compress : DefAt K mg "compress" s_compress ["house"]
 D_add_slots : DefAt K mg "add_slots" s_add_slots ["house", "first_time", "gap", "how_many"]
 D_add_flight : DefAt K mg "add_flight" s_add_flight ["house", "number", "carrier", "planned", "weight"]
 D_set_exempt : DefAt K mg "set_exempt" s_set_exempt ["house", "number", "yes"]
 D_set_ready : DefAt K mg "set_ready" s_set_ready ["house", "number", "time"]
 D_cancel_flight : DefAt K mg "cancel_flight" s_cancel_flight ["house", "number"]
 D_tell_slot : DefAt K mg "tell_slot" s_tell_slot ["house", "number"]
 D_tell_table : DefAt K mg "tell_table" s_tell_table ["house"]
 D_tell_carrier : DefAt K mg "tell_carrier" s_tell_carrier ["house", "carrier"]
 D_tell_total : DefAt K mg "tell_total" s_tell_total ["house"]
 D_tell_open : DefAt K mg "tell_open" s_tell_open ["house"]
 D_saved : DefAt K mg "saved" s_saved ["house", "flight", "other"]
 D_somebody_loses : DefAt K mg "somebody_loses" s_somebody_loses ["house", "flights"]
 D_trade_refusal : DefAt K mg "trade_refusal" s_trade_refusal ["house", "flights"]
 D_trade : DefAt K mg "trade" s_trade ["house", "numbers"]
 D_release : DefAt K mg "release" s_release ["house", "place"]
 D_living_numbers : DefAt K mg "living_numbers" s_living_numbers ["house"]
 D_queue : DefAt K mg "queue" s_queue ["house", "numbers"]
 D_is_right : DefAt K mg "is_right" s_is_right ["house", "flights", "places"]
 D_rival : DefAt K mg "rival" s_rival ["house", "places"]
 D_answer_question : DefAt K mg "answer_question" s_answer_question ["house", "call", "numbers"]
 D_answer_call : DefAt K mg "answer_call" s_answer_call ["house", "call", "numbers"]
 A : AnsAt K mg
structure Facts (K : PySem.W.Frag) (mg : Str -> Option Value) (c : Cs) : Prop extends Defs K mg where
 T : Txt K mg c
 EC : EqCls K c.F
 I_Slot : InitAt K mg "Slot" "Slot.__init__" c.S s_Slot_init ["self", "time"]
 I_Flight : InitAt K mg "Flight" "Flight.__init__" c.F s_Flight_init ["self", "number", "carrier", "planned", "weight"]
 I_House : InitAt K mg "House" "House.__init__" c.H s_House_init ["self"]
section
variable {K : PySem.W.Frag} {h : Heap} {mg : Str -> Option Value} (X : K.In h) (G : h.Ns mainGlobals mg)
include X G
theorem cI {x : Str} {v : Int} {t : Tok} (c : PySem.W.nsIn K mainGlobals x = some (some (.int v t))) : CI mg x v := ⟨_, PySem.W.mg_of X G c⟩
theorem tI {x : Str} {v u : Int} {a : Addr} {od : Option Addr} {os : Array (Option Value)} {n : Nat} {t t' : Tok} (g : PySem.W.nsIn K mainGlobals x = some (some (.ref a))) (l : K.lookup a = some ⟨.type "tuple", od, .seq #[.int v t, .int u t'] n, os⟩) : CT K mg x [.int v, .int u] :=
 ⟨_, PySem.W.mg_of X G g, fun H => .inr ⟨_, _, _, l, rfl, rfl, zl2, .cons ⟨_, rfl⟩ (.cons ⟨_, rfl⟩ .nil)⟩⟩
variable {x : Str} {st : Stmt} {f : Addr} {oc : Value} {od an : Option Addr} {osl : Array (Option Value)} {kV doc pm cdv ct : Value} {ps : List Str}
theorem dA (a : PySem.W.nsIn K mainGlobals x = some (some (.ref f))) (l : K.lookup f = some ⟨oc, od, .func (PySem.W.fnOf x x (dAr st) (dBo st) (dSc st) .none kV doc pm an cdv ct), osl⟩) (c : PySem.W.codeIn K cdv x = true) (k : PySem.W.keepIn K (.ref f) = true)
  (b : ∀ (kV doc pm : Value) (an : Option Addr) (cdv ct : Value) (us : List Value), us.length = ps.length -> bindArgs (PySem.W.fnOf x x (dAr st) (dBo st) (dSc st) .none kV doc pm an cdv ct) ⟨us, []⟩ = pure (ps.zip us)) : DefAt K mg x st ps :=
 ⟨_, _, fun_mk l c k, PySem.W.mg_of X G a, (fun_mk l c k).binds b⟩
theorem aA (a : PySem.W.nsIn K mainGlobals "answers" = some (some (.ref f))) (l : K.lookup f = some ⟨oc, od, .func (PySem.W.fnOf "answers" "answers" (dAr s_answers) (dBo s_answers) (dSc s_answers) .none kV doc pm an cdv ct), osl⟩) (c : PySem.W.codeIn K cdv "answers" = true) (k : PySem.W.keepIn K (.ref f) = true) : AnsAt K mg :=
 ⟨_, _, fun_mk (st := s_answers) l c k, PySem.W.mg_of X G a, fun s us hu => match us, hu with | [_], _ => .of_eq rfl⟩
end
theorem all_facts {K : PySem.W.Frag} {h : Heap} {mg : Str -> Option Value} (X : K.In h) (G : h.Ns mainGlobals mg)
  {C0 f0 : Addr} {od0 an0 : Option Addr} {sl0 : Array (Option Value)} {oc0 kV0 dc0 pm0 cd0 ct0 : Value}
  {C1 f1 : Addr} {od1 an1 : Option Addr} {sl1 : Array (Option Value)} {oc1 kV1 dc1 pm1 cd1 ct1 : Value}
  {C2 f2 : Addr} {od2 an2 : Option Addr} {sl2 : Array (Option Value)} {oc2 kV2 dc2 pm2 cd2 ct2 : Value}
  (g0 : PySem.W.nsIn K mainGlobals "Slot" = some (some (.ref C0)))
  (i0 : PySem.W.findIn K (.ref C0) "__init__" = some (some (.ref f0)))
  (j0 : PySem.W.isFn K (.ref f0) = true)
  (l0 : K.lookup f0 = some ⟨oc0, od0, .func (PySem.W.fnOf "__init__" "Slot.__init__" (dAr s_Slot_init) (dBo s_Slot_init) (dSc s_Slot_init) .none kV0 dc0 pm0 an0 cd0 ct0), sl0⟩)
  (c0 : PySem.W.codeIn K cd0 "Slot.__init__" = true)
  (k0 : PySem.W.keepIn K (.ref f0) = true)
  (pg0 : PySem.W.plainGet K C0 Str.empty = true)
  (hd0 : PySem.W.hasDictIn K C0 = true)
  (po0 : PySem.W.plainOver K C0 = true)
  (sa0 : PySem.W.findIn K (.ref C0) "__setattr__" = some (some (.builtin "object.__setattr__")))
  (mk0 : PySem.W.makesIn K C0 = true)
  (kc0 : PySem.W.keepIn K (.ref C0) = true)
  (nTime : PySem.W.findIn K (.ref C0) "time" = some none)
  (nOwner : PySem.W.findIn K (.ref C0) "owner" = some none)
  (g1 : PySem.W.nsIn K mainGlobals "Flight" = some (some (.ref C1)))
  (i1 : PySem.W.findIn K (.ref C1) "__init__" = some (some (.ref f1)))
  (j1 : PySem.W.isFn K (.ref f1) = true)
  (l1 : K.lookup f1 = some ⟨oc1, od1, .func (PySem.W.fnOf "__init__" "Flight.__init__" (dAr s_Flight_init) (dBo s_Flight_init) (dSc s_Flight_init) .none kV1 dc1 pm1 an1 cd1 ct1), sl1⟩)
  (c1 : PySem.W.codeIn K cd1 "Flight.__init__" = true)
  (k1 : PySem.W.keepIn K (.ref f1) = true)
  (pg1 : PySem.W.plainGet K C1 Str.empty = true)
  (hd1 : PySem.W.hasDictIn K C1 = true)
  (po1 : PySem.W.plainOver K C1 = true)
  (sa1 : PySem.W.findIn K (.ref C1) "__setattr__" = some (some (.builtin "object.__setattr__")))
  (mk1 : PySem.W.makesIn K C1 = true)
  (kc1 : PySem.W.keepIn K (.ref C1) = true)
  (nNumber : PySem.W.findIn K (.ref C1) "number" = some none)
  (nCarrier : PySem.W.findIn K (.ref C1) "carrier" = some none)
  (nPlanned : PySem.W.findIn K (.ref C1) "planned" = some none)
  (nReady : PySem.W.findIn K (.ref C1) "ready" = some none)
  (nWeight : PySem.W.findIn K (.ref C1) "weight" = some none)
  (nExempt : PySem.W.findIn K (.ref C1) "exempt" = some none)
  (nCancelled : PySem.W.findIn K (.ref C1) "cancelled" = some none)
  (nPlace : PySem.W.findIn K (.ref C1) "place" = some none)
  (g2 : PySem.W.nsIn K mainGlobals "House" = some (some (.ref C2)))
  (i2 : PySem.W.findIn K (.ref C2) "__init__" = some (some (.ref f2)))
  (j2 : PySem.W.isFn K (.ref f2) = true)
  (l2 : K.lookup f2 = some ⟨oc2, od2, .func (PySem.W.fnOf "__init__" "House.__init__" (dAr s_House_init) (dBo s_House_init) (dSc s_House_init) .none kV2 dc2 pm2 an2 cd2 ct2), sl2⟩)
  (c2 : PySem.W.codeIn K cd2 "House.__init__" = true)
  (k2 : PySem.W.keepIn K (.ref f2) = true)
  (pg2 : PySem.W.plainGet K C2 Str.empty = true)
  (hd2 : PySem.W.hasDictIn K C2 = true)
  (po2 : PySem.W.plainOver K C2 = true)
  (sa2 : PySem.W.findIn K (.ref C2) "__setattr__" = some (some (.builtin "object.__setattr__")))
  (mk2 : PySem.W.makesIn K C2 = true)
  (kc2 : PySem.W.keepIn K (.ref C2) = true)
  (nSlots : PySem.W.findIn K (.ref C2) "slots" = some none)
  (nFlights : PySem.W.findIn K (.ref C2) "flights" = some none)
  (nGiven : PySem.W.findIn K (.ref C2) "given_out" = some none)
  (eq : PySem.W.findIn K (.ref C1) "__eq__" = some (some (.builtin "object.__eq__")))
  (ob : PySem.W.mroIn K C1 (.type "object") = some true)
  (con : Con K mg) (dfs : Defs K mg) : ∃ c, Facts K mg c := by
 have T : Txt K mg ⟨C2, C0, C1⟩ := ⟨con, ⟨pg2, hd2, po2, sa2⟩, ⟨pg0, hd0, po0, sa0⟩, ⟨pg1, hd1, po1, sa1⟩, nSlots, nFlights, nGiven, nTime, nOwner, nNumber, nCarrier, nPlanned, nReady, nWeight, nExempt, nCancelled, nPlace⟩
 have F0 := fun_mk (st := s_Slot_init) l0 c0 k0
 have F1 := fun_mk (st := s_Flight_init) l1 c1 k1
 have F2 := fun_mk (st := s_House_init) l2 c2 k2
 exact ⟨⟨C2, C0, C1⟩, dfs, T, ⟨eq, ob⟩, ⟨_, _, F0, ⟨mk0, i0, j0, kc0⟩, PySem.W.mg_of X G g0, F0.binds (ps := ["self", "time"]) (fun _ _ _ _ _ _ us hl => match us, hl with | [_, _], _ => rfl)⟩, ⟨_, _, F1, ⟨mk1, i1, j1, kc1⟩, PySem.W.mg_of X G g1, F1.binds (ps := ["self", "number", "carrier", "planned", "weight"]) (fun _ _ _ _ _ _ us hl => match us, hl with | [_, _, _, _, _], _ => rfl)⟩, ⟨_, _, F2, ⟨mk2, i2, j2, kc2⟩, PySem.W.mg_of X G g2, F2.binds (ps := ["self"]) (fun _ _ _ _ _ _ us hl => match us, hl with | [_], _ => rfl)⟩⟩
end SHP
end
section
namespace SHP
open PySem PySem.Spec PyProof.Rows L2 SH
theorem all_ok {P : Program} {w : World} {K : PySem.W.Frag} {mg : Str -> Option Value} {base : Heap} {c : Cs} (Fa : Facts K mg c) {f : Addr} {fd : FuncData} (F : Fun K "answers" "answers" s_answers f fd) : FnOk P w K mg base CX0 7 f fd ["calls"] (sp_answers K) := by
 have T := Fa.T
 have cSlot : MkOk P w K mg base 1 "Slot" c.S ["self", "time"] (sp_Slot c) := ok_Slot T Fa.I_Slot
 have cFlight : MkOk P w K mg base 1 "Flight" c.F ["self", "number", "carrier", "planned", "weight"] (sp_Flight c) := ok_Flight T Fa.I_Flight
 have cHouse : MkOk P w K mg base 1 "House" c.H ["self"] (sp_House c) := ok_House T Fa.I_House
 have o_slot_at : Ok P w K mg base 1 _ _ _ := ok_slot_at T Fa.D_slot_at
 have o_all_places : Ok P w K mg base 1 _ _ _ := ok_all_places T Fa.D_all_places
 have o_may_have : Ok P w K mg base 1 _ _ _ := ok_may_have T Fa.D_may_have
 have o_living : Ok P w K mg base 1 _ _ _ := ok_living_flights T Fa.D_living_flights
 have o_flights_of := ok_flights_of T Fa.D_flights_of o_living
 have o_holders : Ok P w K mg base 1 _ _ _ := ok_holders T Fa.D_holders
 have o_open := ok_open_places T Fa.D_open_places o_all_places o_holders
 have o_open_of := ok_open_places_of T Fa.D_open_places_of o_open o_slot_at
 have o_first := ok_first_place_from T Fa.D_first_place_from o_slot_at
 have o_take := ok_take_place T Fa.D_take_place o_slot_at
 have o_late := ok_lateness T Fa.D_lateness o_slot_at
 have o_sum : Ok P w K mg base 1 _ _ _ := ok_sum_and_greatest T Fa.D_sum_and_greatest
 have o_told_late := ok_told_lateness T Fa.D_told_lateness o_late o_sum
 have o_cost := ok_carrier_cost T Fa.D_carrier_cost o_flights_of o_late
 have o_told := ok_told_slot T Fa.D_told_slot o_slot_at o_late
 have o_may_change := ok_may_change T Fa.D_may_change o_slot_at o_may_have
 have o_change := ok_change_places T Fa.D_change_places o_take
 have o_two : Ok P w K mg base 1 _ _ _ := ok_two_of_one_carrier T Fa.D_two_of_one_carrier
 have o_swap := ok_swap T Fa.D_swap o_may_change o_two o_cost o_change
 have o_best_order : Ok P w K mg base 1 _ _ _ := ok_best_order T Fa.D_best_order
 have o_ftm := ok_first_that_may T Fa.D_first_that_may o_may_have
 have o_best := ok_best T Fa.EC Fa.D_best o_slot_at o_all_places o_flights_of o_cost o_best_order o_ftm
 have o_turn := ok_places_in_turn T Fa.D_places_in_turn o_all_places o_first
 have o_ration_order : Ok P w K mg base 1 _ _ _ := ok_ration_order T Fa.D_ration_order
 have o_give := ok_give_out T Fa.D_give_out o_take
 have o_ration := ok_ration T Fa.D_ration o_living o_turn o_told_late o_ration_order o_give
 have o_place_of : Ok P w K mg base 1 _ _ _ := ok_place_of T Fa.D_place_of
 have o_comer := ok_comer T Fa.D_comer o_slot_at o_may_have o_living o_place_of
 have o_pass := ok_pass_on T Fa.D_pass_on o_slot_at o_take
 have o_compress := ok_compress T Fa.D_compress o_all_places o_holders o_comer o_pass
 have o_add_slots := ok_add_slots T Fa.D_add_slots o_slot_at cSlot
 have o_add_flight := ok_add_flight T Fa.D_add_flight o_open_of o_first o_take o_told cFlight
 have o_exempt : Ok P w K mg base 1 _ _ _ := ok_set_exempt T Fa.D_set_exempt
 have o_ready := ok_set_ready T Fa.D_set_ready o_slot_at o_open_of o_first o_take o_told
 have o_cancel := ok_cancel_flight T Fa.D_cancel_flight o_told
 have o_tell_slot := ok_tell_slot T Fa.D_tell_slot o_told
 have o_tell_table := ok_tell_table T Fa.D_tell_table o_holders o_all_places o_slot_at
 have o_tell_carrier := ok_tell_carrier T Fa.D_tell_carrier o_flights_of o_told_late o_cost
 have o_tell_total := ok_tell_total T Fa.D_tell_total o_living o_told_late
 have o_tell_open := ok_tell_open T Fa.D_tell_open o_open
 have o_saved := ok_saved T Fa.D_saved o_slot_at
 have o_loses := ok_somebody_loses T Fa.D_somebody_loses o_saved
 have o_refusal := ok_trade_refusal T Fa.D_trade_refusal o_loses o_may_change o_two
 have o_trade := ok_trade T Fa.D_trade o_refusal o_cost o_change
 have o_release := ok_release T Fa.D_release o_holders o_slot_at
 have o_numbers := ok_living_numbers T Fa.D_living_numbers o_living
 have o_queue := ok_queue T Fa.D_queue o_numbers o_turn
 have o_right := ok_is_right T Fa.D_is_right o_slot_at o_may_have
 have o_rival := ok_rival T Fa.D_rival o_numbers o_slot_at o_right o_sum
 have o_has_row : Ok P w K mg base 1 _ _ _ := ok_has_row T Fa.D_has_row
 have o_ranges : Ok P w K mg base 1 _ _ _ := ok_ranges_of T Fa.D_ranges_of
 have o_row : Ok P w K mg base 1 _ _ _ := ok_row_range_of T Fa.D_row_range_of
 have o_in : Ok P w K mg base 1 _ _ _ := ok_all_in_range T Fa.D_all_in_range
 have o_fits := ok_fits T Fa.D_fits o_has_row o_in o_row o_ranges
 have o_question := ok_answer_question T Fa.D_answer_question o_tell_slot o_tell_table o_tell_carrier o_tell_total o_queue o_rival o_tell_open
 have o_call := ok_answer_call T Fa.D_answer_call o_add_slots o_add_flight o_exempt o_ready o_cancel o_ration o_compress o_swap o_best o_trade o_release o_question
 exact ok_answers T F cHouse o_has_row o_ranges o_fits o_call
end SHP
end
section
section
namespace L2
open PySem PySem.Spec PyProof.Rows
open PySem.W (WData Codec OpenSpec Well WellAll ReadsW ReadsAllW)
mutual
inductive Dw (K : PySem.W.Frag) (H : Hp) : V -> WData -> Prop
 | non : Dw K H .non .none
 | bl (b : Bool) : Dw K H (.bl b) (.bool b)
 | int (i : Int) : Dw K H (.int i) (.int i)
 | str (x : Str) : Dw K H (.str x) (.str x)
 | byt (b : Array UInt8) : Dw K H (.byt b) (.bytes b.toList)
 | lst {a : Addr} {xs : List V} {ds : List WData} : SqL K H a xs -> DwAll K H xs ds -> Dw K H (.ref a) (.list ds)
 | tup {a : Addr} {xs : List V} {ds : List WData} : SqT K H a xs -> DwAll K H xs ds -> Dw K H (.ref a) (.tuple ds)
inductive DwAll (K : PySem.W.Frag) (H : Hp) : List V -> List WData -> Prop
 | nil : DwAll K H [] []
 | cons {v : V} {vs : List V} {d : WData} {ds : List WData} : Dw K H v d -> DwAll K H vs ds -> DwAll K H (v :: vs) (d :: ds)
end
theorem dw_ints {K : PySem.W.Frag} {H : Hp} : ∀ ns : List Int, DwAll K H (ns.map V.int) (ns.map WData.int)
 | [] => .nil
 | n :: r => .cons (.int n) (dw_ints r)
theorem ints_dw {K : PySem.W.Frag} {H : Hp} : ∀ (ns : List Int) (xs : List V), DwAll K H xs (ns.map WData.int) -> xs = ns.map V.int
 | [], xs, h => by
  cases h
  rfl
 | n :: r, xs, h => by
  cases h with
  | cons h1 h2 =>
   cases h1
   rw [ints_dw r _ h2] <;> rfl
section
variable {P : Program} {w : World} {K : PySem.W.Frag} {H : Hp} {h : Heap} {R : PySem.W.WRecords} {cl : Str -> Option Addr}
theorem sqL_at {a : Addr} {xs : List V} (hok : HOk P w H h) (KX : K.In h) (q : SqL K H a xs) : ∃ (its : List Value) (o : Obj) (n : Nat), Vals xs its /\ h.get? a = some o /\ o.cls = .type "list" /\ o.data = .seq its.toArray n := by
 rcases q with q | ⟨o, its, n, e, hc, _, hd, _, hv⟩
 ·obtain ⟨_, its, n, hv, e⟩ := (show ObjOk P w H h a (.lst xs) from q.ok hok)
  exact ⟨its, _, n, hv, e, rfl, rfl⟩
 ·exact ⟨its.toList, o, n, hv, KX _ _ e, hc, by simp [hd]⟩
theorem sqT_at {a : Addr} {xs : List V} (hok : HOk P w H h) (KX : K.In h) (q : SqT K H a xs) : ∃ (its : List Value) (o : Obj) (n : Nat), Vals xs its /\ h.get? a = some o /\ o.cls = .type "tuple" /\ o.data = .seq its.toArray n := by
 rcases q with q | ⟨o, its, n, e, hc, hd, _, hv⟩
 ·obtain ⟨_, its, hv, o, e, hc, n, hd⟩ := (show ObjOk P w H h a (.tup xs) from q.ok hok)
  exact ⟨its, o, n, hv, e, hc, hd⟩
 ·exact ⟨its.toList, o, n, hv, KX _ _ e, hc, by simp [hd]⟩
mutual
theorem Dw.reads (hok : HOk P w H h) (KX : K.In h) : ∀ (d : WData) (v : V) (u : Value), Dw K H v d -> RelV v u -> ∃ as, ReadsW R cl h u d as
 | .none, _, _, x, r => by
  cases x
  cases r
  exact ⟨_, ReadsW.none⟩
 | .bool b, _, _, x, r => by
  cases x
  cases r
  exact ⟨_, ReadsW.bool b⟩
 | .int i, _, _, x, r => by
  cases x
  obtain ⟨t, rfl⟩ := r
  exact ⟨_, ReadsW.int i t⟩
 | .str s, _, _, x, r => by
  cases x
  obtain ⟨t, rfl⟩ := r
  exact ⟨_, ReadsW.str s t⟩
 | .bytes b, _, _, x, r => by
  cases x
  obtain ⟨t, rfl⟩ := r
  exact ⟨_, ReadsW.bytes _ t⟩
 | .list ds, _, _, x, r => by
  cases x with
  | lst hs ha =>
   cases r
   obtain ⟨its, o, n, rv, ho, hc, hd⟩ := sqL_at hok KX hs
   obtain ⟨as, hr⟩ := Dw.readsAll hok KX ds _ its ha rv
   exact ⟨_, ReadsW.list ho hc hd hr⟩
 | .tuple ds, _, _, x, r => by
  cases x with
  | tup hs ha =>
   cases r
   obtain ⟨its, o, n, rv, ho, hc, hd⟩ := sqT_at hok KX hs
   obtain ⟨as, hr⟩ := Dw.readsAll hok KX ds _ its ha rv
   exact ⟨_, ReadsW.tuple ho hc hd hr⟩
 | .float _, _, _, x, _ => by cases x
 | .dict _, _, _, x, _ => by cases x
 | .bytearray _, _, _, x, _ => by cases x
 | .set _, _, _, x, _ => by cases x
 | .frozenset _, _, _, x, _ => by cases x
 | .obj _ _, _, _, x, _ => by cases x
theorem Dw.readsAll (hok : HOk P w H h) (KX : K.In h) : ∀ (ds : List WData) (vs : List V) (us : List Value), DwAll K H vs ds -> Vals vs us -> ∃ as, ReadsAllW R cl h us ds as
 | [], _, _, x, r => by
  cases x
  cases r
  exact ⟨_, ReadsAllW.nil⟩
 | d :: ds, _, _, x, r => by
  cases x with
  | cons h1 h2 =>
   cases r with
   | cons r1 r2 =>
    obtain ⟨as, q1⟩ := Dw.reads hok KX d _ _ h1 r1
    obtain ⟨bs, q2⟩ := Dw.readsAll hok KX ds _ _ h2 r2
    exact ⟨_, ReadsAllW.cons q1 q2⟩
end
end
mutual
def plW : WData -> Bool
 | .none => true
 | .bool _ => true
 | .int _ => true
 | .str _ => true
 | .bytes _ => true
 | .list xs => plWs xs
 | .tuple xs => plWs xs
 | _ => false
def plWs : List WData -> Bool
 | [] => true
 | x :: r => plW x && plWs r
end
theorem plWs_map {α : Type} {f : α -> WData} (h : ∀ a, plW (f a) = true) : ∀ l : List α, plWs (l.map f) = true
 | [] => rfl
 | x :: r => by
  show (plW (f x) && plWs (r.map f)) = true
  rw [h x, plWs_map h r] <;> rfl
theorem pl_enc : ∀ (c : Codec) (a : c.denote), plW (c.enc a) = true
 | .unit, _ => rfl
 | .bool, _ => rfl
 | .int _ _, _ => rfl
 | .nat _ _, _ => rfl
 | .u8, _ => rfl
 | .bytes _ _, _ => rfl
 | .text _ _ _ _, _ => rfl
 | .list _ _ c, a => plWs_map (fun x => pl_enc c x) a
 | .pair c d, a => by
  show (plW (c.enc a.1) && (plW (d.enc a.2) && true)) = true
  rw [pl_enc c a.1, pl_enc d a.2] <;> rfl
 | .triple c d e, a => by
  show (plW (c.enc a.1) && (plW (d.enc a.2.1) && (plW (e.enc a.2.2) && true))) = true
  rw [pl_enc c a.1, pl_enc d a.2.1, pl_enc e a.2.2] <;> rfl
 | .option c, none => rfl
 | .option c, some x => pl_enc c x
theorem pl_encAll : ∀ (cs : List Codec) (a : Codec.denoteAll cs), plWs (Codec.encAll cs a) = true
 | [], _ => rfl
 | c :: cs, a => by
  show (plW (c.enc a.1) && plWs (Codec.encAll cs a.2)) = true
  rw [pl_enc c a.1, pl_encAll cs a.2] <;> rfl
theorem weight_mem : ∀ {xs : List WData} {d : WData}, d ∈ xs -> d.weight <= WData.weightAll xs
 | [], d, h => absurd h (by simp)
 | x :: r, d, h => by
  show d.weight <= x.weight + 1 + WData.weightAll r
  rcases List.mem_cons.mp h with e | m
  ·rw [e]
   omega
  ·have z := weight_mem m
   omega
def toV : Value -> V
 | .none => .non
 | .bool b => .bl b
 | .int i _ => .int i
 | .str x _ => .str x
 | .bytes b _ => .byt b
 | .ref a => .ref a
 | _ => .non
def OkU (A : List Addr) : Value -> Prop
 | .none => True
 | .bool _ => True
 | .int _ _ => True
 | .str _ _ => True
 | .bytes _ _ => True
 | .ref a => a ∈ A
 | _ => False
theorem OkU.mono {A B : List Addr} (h : ∀ a ∈ A, a ∈ B) : ∀ {u : Value}, OkU A u -> OkU B u := fun {u} x => by
 cases u with
 | ref a => exact h a x
 | none => trivial
 | bool b => trivial
 | int i t => trivial
 | str s t => trivial
 | bytes b t => trivial
 | _ => exact False.elim x
theorem relV_toV {A : List Addr} {u : Value} (x : OkU A u) : RelV (toV u) u := by
 cases u with
 | ref a => rfl
 | none => rfl
 | bool b => rfl
 | int i t => exact ⟨t, rfl⟩
 | str s t => exact ⟨t, rfl⟩
 | bytes b t => exact ⟨t, rfl⟩
 | _ => exact False.elim x
theorem vals_toV {A : List Addr} : ∀ {vs : List Value}, (∀ u ∈ vs, OkU A u) -> Vals (vs.map toV) vs
 | [], _ => .nil
 | u :: r, h => .cons (relV_toV (h u (List.mem_cons_self ..))) (vals_toV fun x hx => h x (List.mem_cons_of_mem _ hx))
def ArgOb (h : Heap) (A : List Addr) (a : Addr) : Prop := ∃ vs : List Value, vs.length <= sizeLine /\ (∀ u ∈ vs, OkU A u) /\
 (h.get? a = some { cls := .type "list", data := .seq vs.toArray } \/ h.get? a = some { cls := .type "tuple", data := .seq vs.toArray })
theorem ArgOb.mono {h : Heap} {A B : List Addr} {a : Addr} (k : ∀ a ∈ A, a ∈ B) (x : ArgOb h A a) : ArgOb h B a := by
 obtain ⟨vs, h1, h2, h3⟩ := x
 exact ⟨vs, h1, fun u hu => (h2 u hu).mono k, h3⟩
theorem wellAll_len {P : Params} {h : Heap} : ∀ {vs : List Value} {ds : List WData}, WellAll P h vs ds -> vs.length = ds.length
 | _, _, .nil => rfl
 | _, _, .cons _ b => by
  show _ + 1 = _ + 1
  rw [wellAll_len b]
theorem well_list {P : Params} {h : Heap} {v : Value} {ds : List WData} (x : Well P h v (.list ds)) : ∃ (a : Addr) (vs : List Value), v = .ref a /\ h.get? a = some { cls := .type "list", data := .seq vs.toArray } /\ WellAll P h vs ds := by
 cases x with
 | list ho hall => exact ⟨_, _, rfl, ho, hall⟩
theorem well_tuple {P : Params} {h : Heap} {v : Value} {ds : List WData} (x : Well P h v (.tuple ds)) : ∃ (a : Addr) (vs : List Value), v = .ref a /\ h.get? a = some { cls := .type "tuple", data := .seq vs.toArray } /\ WellAll P h vs ds := by
 cases x with
 | tuple ho hall => exact ⟨_, _, rfl, ho, hall⟩
theorem well_cons {P : Params} {h : Heap} {us : List Value} {d : WData} {ds : List WData} (x : WellAll P h us (d :: ds)) : ∃ (v : Value) (vs : List Value), us = v :: vs /\ Well P h v d /\ WellAll P h vs ds := by
 cases x with
 | cons a b => exact ⟨_, _, rfl, a, b⟩
theorem line_of {n : Nat} (h : n <= 1048576) : n <= sizeLine := Nat.le_trans h (by decide)
section
variable {P : Params} {h : Heap}
mutual
theorem area_one : ∀ (d : WData) (v : Value), Well P h v d -> plW d = true -> d.weight <= 1048576 -> ∃ A : List Addr, OkU A v /\ ∀ a ∈ A, ArgOb h A a
 | .none, _, x, _, _ => by
  cases x
  exact ⟨[], trivial, fun a m => absurd m (by simp)⟩
 | .bool b, _, x, _, _ => by
  cases x
  exact ⟨[], trivial, fun a m => absurd m (by simp)⟩
 | .int i, _, x, _, _ => by
  cases x
  exact ⟨[], trivial, fun a m => absurd m (by simp)⟩
 | .str s, _, x, _, _ => by
  cases x
  exact ⟨[], trivial, fun a m => absurd m (by simp)⟩
 | .bytes b, _, x, _, _ => by
  cases x
  exact ⟨[], trivial, fun a m => absurd m (by simp)⟩
 | .list ds, _, x, p, z => by
  obtain ⟨a, vs, rfl, ho, hall⟩ := well_list x
  have z2 : WData.weightAll ds <= 1048576 := z
  obtain ⟨A, h1, h2⟩ := area_all ds _ hall p fun d hd => Nat.le_trans (weight_mem hd) z2
  have k : ∀ b ∈ A, b ∈ a :: A := fun b hb => List.mem_cons_of_mem _ hb
  refine ⟨a :: A, List.mem_cons_self .., fun b hb => ?_⟩
  rcases List.mem_cons.mp hb with e | m
  ·rw [e]
   exact ⟨vs, line_of (by rw [wellAll_len hall]; exact Nat.le_trans (PySem.W.length_le_weightAllW ds) z2), fun u hu => (h1 u hu).mono k, .inl ho⟩
  ·exact (h2 b m).mono k
 | .tuple ds, _, x, p, z => by
  obtain ⟨a, vs, rfl, ho, hall⟩ := well_tuple x
  have z2 : WData.weightAll ds <= 1048576 := z
  obtain ⟨A, h1, h2⟩ := area_all ds _ hall p fun d hd => Nat.le_trans (weight_mem hd) z2
  have k : ∀ b ∈ A, b ∈ a :: A := fun b hb => List.mem_cons_of_mem _ hb
  refine ⟨a :: A, List.mem_cons_self .., fun b hb => ?_⟩
  rcases List.mem_cons.mp hb with e | m
  ·rw [e]
   exact ⟨vs, line_of (by rw [wellAll_len hall]; exact Nat.le_trans (PySem.W.length_le_weightAllW ds) z2), fun u hu => (h1 u hu).mono k, .inr ho⟩
  ·exact (h2 b m).mono k
 | .float _, _, _, p, _ => Bool.noConfusion (show false = true from p)
 | .dict _, _, _, p, _ => Bool.noConfusion (show false = true from p)
 | .bytearray _, _, _, p, _ => Bool.noConfusion (show false = true from p)
 | .set _, _, _, p, _ => Bool.noConfusion (show false = true from p)
 | .frozenset _, _, _, p, _ => Bool.noConfusion (show false = true from p)
 | .obj _ _, _, _, p, _ => Bool.noConfusion (show false = true from p)
theorem area_all : ∀ (ds : List WData) (vs : List Value), WellAll P h vs ds -> plWs ds = true -> (∀ d ∈ ds, d.weight <= 1048576) -> ∃ A : List Addr, (∀ u ∈ vs, OkU A u) /\ ∀ a ∈ A, ArgOb h A a
 | [], _, x, _, _ => by
  cases x
  exact ⟨[], fun u m => absurd m (by simp), fun a m => absurd m (by simp)⟩
 | d :: ds, _, x, p, z => by
  obtain ⟨v, vs, rfl, x1, x2⟩ := well_cons x
  have q : plW d = true /\ plWs ds = true := Bool.and_eq_true_iff.mp p
  obtain ⟨A, a1, a2⟩ := area_one d v x1 q.1 (z d (List.mem_cons_self ..))
  obtain ⟨B, b1, b2⟩ := area_all ds vs x2 q.2 fun e he => z e (List.mem_cons_of_mem _ he)
  have kA : ∀ b ∈ A, b ∈ A ++ B := fun b hb => List.mem_append.mpr (.inl hb)
  have kB : ∀ b ∈ B, b ∈ A ++ B := fun b hb => List.mem_append.mpr (.inr hb)
  refine ⟨A ++ B, fun u hu => ?_, fun b hb => ?_⟩
  ·rcases List.mem_cons.mp hu with e | m
   ·rw [e]
    exact a1.mono kA
   ·exact (b1 u m).mono kB
  ·rcases List.mem_append.mp hb with m | m
   ·exact (a2 b m).mono kA
   ·exact (b2 b m).mono kB
end
end
def hoOf (o : Obj) : Option HO := match o.data with
 | .seq vs _ => if (o.cls == Value.type "list") = true then some (.frz o (.lst (vs.toList.map toV))) else some (.frz o (.tup (vs.toList.map toV)))
 | _ => none
def argH (K : PySem.W.Frag) (h : Heap) (A : List Addr) : Hp := fun b => if b ∈ A then (if (K.lookup b).isNone = true then (h.get? b).bind hoOf else none) else none
def OnlyF (H : Hp) : Prop := ∀ b, H b = none \/ ∃ o u, H b = some (.frz o u)
theorem hoOf_lst (vs : List Value) : hoOf { cls := .type "list", data := .seq vs.toArray } = some (.frz { cls := .type "list", data := .seq vs.toArray } (.lst (vs.map toV))) := by
 show (if (Value.type "list" == Value.type "list") = true then some (HO.frz { cls := .type "list", data := .seq vs.toArray } (.lst (vs.toArray.toList.map toV))) else some (HO.frz { cls := .type "list", data := .seq vs.toArray } (.tup (vs.toArray.toList.map toV)))) = _
 rw [if_pos (beq_self_eq_true _)]
theorem hoOf_tup (vs : List Value) : hoOf { cls := .type "tuple", data := .seq vs.toArray } = some (.frz { cls := .type "tuple", data := .seq vs.toArray } (.tup (vs.map toV))) := by
 show (if (Value.type "tuple" == Value.type "list") = true then some (HO.frz { cls := .type "tuple", data := .seq vs.toArray } (.lst (vs.toArray.toList.map toV))) else some (HO.frz { cls := .type "tuple", data := .seq vs.toArray } (.tup (vs.toArray.toList.map toV)))) = _
 rw [if_neg (by decide)]
section
variable {P : Program} {w : World} {K : PySem.W.Frag} {h : Heap} {A : List Addr}
theorem argH_at {b : Addr} {o : Obj} (hb : b ∈ A) (hk : K.lookup b = none) (e : h.get? b = some o) : argH K h A b = hoOf o := by
 unfold argH
 rw [if_pos hb, hk, if_pos (show (none : Option Obj).isNone = true from rfl), e] <;> rfl
theorem of_argH {b : Addr} {u : HO} (q : argH K h A b = some u) : b ∈ A /\ K.lookup b = none := by
 unfold argH at q
 by_cases hb : b ∈ A
 ·rw [if_pos hb] at q
  cases hk : K.lookup b with
  | none => exact ⟨hb, rfl⟩
  | some o =>
   rw [hk, if_neg (by simp)] at q
   cases q
 ·rw [if_neg hb] at q
  cases q
theorem argH_is (ar : ∀ a ∈ A, ArgOb h A a) {b : Addr} {u : HO} (q : argH K h A b = some u) : K.lookup b = none /\ ∃ vs : List Value, vs.length <= sizeLine /\ (∀ u ∈ vs, OkU A u) /\
  ((h.get? b = some { cls := .type "list", data := .seq vs.toArray } /\ u = .frz { cls := .type "list", data := .seq vs.toArray } (.lst (vs.map toV))) \/
   (h.get? b = some { cls := .type "tuple", data := .seq vs.toArray } /\ u = .frz { cls := .type "tuple", data := .seq vs.toArray } (.tup (vs.map toV)))) := by
 obtain ⟨hb, hk⟩ := of_argH q
 obtain ⟨vs, h1, h2, h3⟩ := ar b hb
 refine ⟨hk, vs, h1, h2, ?_⟩
 rcases h3 with e | e
 ·rw [argH_at hb hk e, hoOf_lst] at q
  exact .inl ⟨e, (Option.some.inj q).symm⟩
 ·rw [argH_at hb hk e, hoOf_tup] at q
  exact .inr ⟨e, (Option.some.inj q).symm⟩
theorem argH_only (ar : ∀ a ∈ A, ArgOb h A a) : OnlyF (argH K h A) := fun b => by
 cases q : argH K h A b with
 | none => exact .inl rfl
 | some u =>
  obtain ⟨_, vs, _, _, ⟨_, e⟩ | ⟨_, e⟩⟩ := argH_is ar q
  ·exact .inr ⟨_, _, by rw [e]⟩
  ·exact .inr ⟨_, _, by rw [e]⟩
theorem argH_ok (ar : ∀ a ∈ A, ArgOb h A a) : HOk P w (argH K h A) h := fun b u q => by
 obtain ⟨_, vs, h1, h2, ⟨e, rfl⟩ | ⟨e, rfl⟩⟩ := argH_is ar q
 ·exact ⟨e, by rw [List.length_map]; exact h1, vs, _, vals_toV h2, e⟩
 ·exact ⟨e, by rw [List.length_map]; exact h1, vs, vals_toV h2, _, e, rfl, _, rfl⟩
theorem seq_inj {c c' : Value} {vs us : List Value} (e : (some { cls := c, data := .seq vs.toArray } : Option Obj) = some { cls := c', data := .seq us.toArray }) : c = c' /\ vs = us := by
 have e1 := Option.some.inj e
 have e2 : c = c' := congrArg Obj.cls e1
 have e3 : Data.seq vs.toArray = Data.seq us.toArray := congrArg Obj.data e1
 injection e3 with e4
 refine ⟨e2, ?_⟩
 have e5 := congrArg Array.toList e4
 simpa using e5
theorem argL (KX : K.In h) (ar : ∀ a ∈ A, ArgOb h A a) {a : Addr} {vs : List Value} (ha : a ∈ A) (e : h.get? a = some { cls := .type "list", data := .seq vs.toArray }) : (∀ u ∈ vs, OkU A u) /\ SqL K (argH K h A) a (vs.map toV) := by
 obtain ⟨us, h1, h2, h3⟩ := ar a ha
 have hu : us = vs := by
  rcases h3 with q | q
  ·rw [e] at q
   exact (seq_inj q).2.symm
  ·rw [e] at q
   exact absurd (Value.type.inj (seq_inj q).1) (by decide)
 subst hu
 refine ⟨h2, ?_⟩
 cases hk : K.lookup a with
 | none => exact .inl (.inr ⟨_, by rw [argH_at ha hk e, hoOf_lst]⟩)
 | some o =>
  have e2 := KX a o hk
  rw [e] at e2
  obtain rfl := Option.some.inj e2
  exact .inr ⟨_, us.toArray, _, hk, rfl, rfl, rfl, by rw [List.size_toArray]; exact h1, by simpa using vals_toV h2⟩
theorem argT (KX : K.In h) (ar : ∀ a ∈ A, ArgOb h A a) {a : Addr} {vs : List Value} (ha : a ∈ A) (e : h.get? a = some { cls := .type "tuple", data := .seq vs.toArray }) : (∀ u ∈ vs, OkU A u) /\ SqT K (argH K h A) a (vs.map toV) := by
 obtain ⟨us, h1, h2, h3⟩ := ar a ha
 have hu : us = vs := by
  rcases h3 with q | q
  ·rw [e] at q
   exact absurd (Value.type.inj (seq_inj q).1) (by decide)
  ·rw [e] at q
   exact (seq_inj q).2.symm
 subst hu
 refine ⟨h2, ?_⟩
 cases hk : K.lookup a with
 | none => exact .inl (.inr ⟨_, by rw [argH_at ha hk e, hoOf_tup]⟩)
 | some o =>
  have e2 := KX a o hk
  rw [e] at e2
  obtain rfl := Option.some.inj e2
  exact .inr ⟨_, us.toArray, _, hk, rfl, rfl, by rw [List.size_toArray]; exact h1, by simpa using vals_toV h2⟩
mutual
theorem dw_one {Pm : Params} (KX : K.In h) (ar : ∀ a ∈ A, ArgOb h A a) : ∀ (d : WData) (v : Value), Well Pm h v d -> plW d = true -> OkU A v -> Dw K (argH K h A) (toV v) d
 | .none, _, x, _, _ => by
  cases x
  exact .non
 | .bool b, _, x, _, _ => by
  cases x
  exact .bl b
 | .int i, _, x, _, _ => by
  cases x
  exact .int i
 | .str s, _, x, _, _ => by
  cases x
  exact .str s
 | .bytes b, _, x, _, _ => by
  cases x
  have z := Dw.byt (K := K) (H := argH K h A) b.toArray
  exact z
 | .list ds, _, x, p, hu => by
  obtain ⟨a, vs, rfl, ho, hall⟩ := well_list x
  obtain ⟨h2, hs⟩ := argL KX ar hu ho
  exact .lst hs (dw_all KX ar ds _ hall p h2)
 | .tuple ds, _, x, p, hu => by
  obtain ⟨a, vs, rfl, ho, hall⟩ := well_tuple x
  obtain ⟨h2, hs⟩ := argT KX ar hu ho
  exact .tup hs (dw_all KX ar ds _ hall p h2)
 | .float _, _, _, p, _ => Bool.noConfusion (show false = true from p)
 | .dict _, _, _, p, _ => Bool.noConfusion (show false = true from p)
 | .bytearray _, _, _, p, _ => Bool.noConfusion (show false = true from p)
 | .set _, _, _, p, _ => Bool.noConfusion (show false = true from p)
 | .frozenset _, _, _, p, _ => Bool.noConfusion (show false = true from p)
 | .obj _ _, _, _, p, _ => Bool.noConfusion (show false = true from p)
theorem dw_all {Pm : Params} (KX : K.In h) (ar : ∀ a ∈ A, ArgOb h A a) : ∀ (ds : List WData) (vs : List Value), WellAll Pm h vs ds -> plWs ds = true -> (∀ u ∈ vs, OkU A u) -> DwAll K (argH K h A) (vs.map toV) ds
 | [], _, x, _, _ => by
  cases x
  exact .nil
 | d :: ds, _, x, p, hu => by
  obtain ⟨v, vs, rfl, x1, x2⟩ := well_cons x
  have q : plW d = true /\ plWs ds = true := Bool.and_eq_true_iff.mp p
  exact .cons (dw_one KX ar d v x1 q.1 (hu _ (List.mem_cons_self ..))) (dw_all KX ar ds vs x2 q.2 fun u m => hu u (List.mem_cons_of_mem _ m))
end
end
theorem spec_call {P : Program} {w : World} {K : PySem.W.Frag} {mg mb : Str -> Option Value} {CX : CXT} {k : Nat} {fa : Addr} {fd : FuncData} {ps : List Str} {sp : Sp} {s₁ : Shared} {vals : List Value} {ds : List WData} {R : PySem.W.WRecords} {cl : Str -> Option Addr} {d0 : WData}
  (KX : K.In s₁.heap) (hns : s₁.heap.Ns mainGlobals mg) (hb : s₁.heap.Ns builtinsNs mb) (hbb : ∀ x : Str, x ≠ "__name__" -> mb x = bootBuiltins x) (hlim : s₁.heap.NoLimit) (hg : s₁.gens = #[])
  (hwl : WellAll w.params s₁.heap vals ds) (hpl : plWs ds = true) (hwt : ∀ d ∈ ds, d.weight <= 1048576) (hr : Room k callerA)
  (F : ∀ base : Heap, K.In base -> base.Ns mainGlobals mg -> FnOk P w K mg base CX k fa fd ps sp) (hbind : ∀ (s : Shared) (us : List Value), us.length = ps.length -> BindsTo s fd ⟨us, []⟩ (ps.zip us)) (hlen : ds.length = ps.length)
  (hsp : ∀ (H : Hp) (xs : List V), OnlyF H -> DwAll K H xs ds -> sp xs H (fun v H' => Dw K H' v d0) fun _ _ _ => False)
  (hCX : ∀ H e s', CX [] H s₁ (fun _ _ _ => False) e s' -> False) :
  codeAny (model P w) callerA (.call (.ref fa) ⟨vals, []⟩) (fun r s' => ∃ u as, r = .ok (.ret u) /\ ReadsW R cl s'.heap u d0 as /\ OldK s₁.heap s'.heap /\ s'.os = s₁.os /\ AllBare s'.gens) s₁ := by
 obtain ⟨A, ho, ar⟩ := area_all ds vals hwl hpl hwt
 have hO : OnlyF (argH K s₁.heap A) := argH_only ar
 have hok : HOk P w (argH K s₁.heap A) s₁.heap := argH_ok ar
 have hS := dw_all KX ar ds vals hwl hpl ho
 have hV := vals_toV ho
 have hK : ∀ b u, argH K s₁.heap A b = some u -> K.lookup b = none := fun b u q => (argH_is ar q).1
 have noA : ∀ {b : Addr} {o : Obj} {es : Array DictEntry} {ep : Nat}, s₁.heap.get? b = some o -> o.data = .dict es ep -> argH K s₁.heap A b = none := fun {b o es ep} e d => by
  cases q : argH K s₁.heap A b with
  | none => rfl
  | some u =>
   obtain ⟨_, vs, _, _, ⟨e2, _⟩ | ⟨e2, _⟩⟩ := argH_is ar q
   ·rw [e2] at e
    cases e
    have d' : Data.seq vs.toArray _ = Data.dict es ep := d
    cases d'
   ·rw [e2] at e
    cases e
    have d' : Data.seq vs.toArray _ = Data.dict es ep := d
    cases d'
 generalize argH K s₁.heap A = H at hO hok hS hK noA
 have base_of : ∀ {b : Addr} {o : Obj}, s₁.heap.get? b = some o -> H b = none -> (hidT s₁.heap H).get? b = some o := fun e n => hidT_get e n
 have nsK : ∀ {b : Addr} {m : Str -> Option Value}, s₁.heap.Ns b m -> (hidT s₁.heap H).Ns b m := fun {b m} ⟨o, es, ep, e, d, r⟩ => ⟨o, es, ep, base_of e (noA e d), d, r⟩
 have nK : ∀ b o, K.lookup b = some o -> H b = none := fun b o e => by
  cases q : H b with
  | none => rfl
  | some u =>
   rw [hK b u q] at e
   cases e
 have hKb : K.In (hidT s₁.heap H) := fun b o e => base_of (KX b o e) (nK b o e)
 have hM : Mod K mg (hidT s₁.heap H) := ⟨hKb, nsK hns, ⟨mb, nsK hb, hbb⟩, let ⟨mc, h1, h2⟩ := hlim; ⟨mc, nsK h1, h2⟩⟩
 have e0 : Env0 P w K mg (hidT s₁.heap H) callerA [] s₁ H := ⟨rfl, hM, fun b o e => of_hidT e, Nat.le_of_eq (hidT_size _ _), trivial, fun b hb => absurd (show b ∈ ([] : List Addr) from hb) (by simp), hok, .of_eq hg⟩
 have hl : vals.length = ps.length := by rw [wellAll_len hwl]; exact hlen
 refine codeAny_mono ((F _ hKb (nsK hns)).run callerA [] s₁ H ⟨vals, []⟩ vals (vals.map toV) _ _ hr e0 (hbind s₁ vals hl) hV (hsp H _ hO hS)) fun r s' x => ?_
 cases r with
 | error e => exact (hCX H e s' x).elim
 | ok fl =>
  cases fl with
  | next => exact False.elim x
  | brk => exact False.elim x
  | cont => exact False.elim x
  | ret u =>
   obtain ⟨v, H', os, bare, un, hok', r', q⟩ := x
   have kept : ∀ b o, s₁.heap.get? b = some o -> s'.heap.get? b = some o := fun b o e => by
    cases q2 : H b with
    | none => exact un.keep b o e q2 (by intro z; exact absurd (show b ∈ ([] : List Addr) from z) (by simp)) (by simp)
    | some u2 =>
     rcases hO b with z | ⟨ob, u3, z⟩
     ·rw [q2] at z
      cases z
     ·have z2 := un.frzs b ob _ z
      obtain ⟨e1, _⟩ := hok b _ z
      obtain ⟨e2, _⟩ := hok' b _ z2
      rw [e] at e1
      cases e1
      exact e2
   have KX' : K.In s'.heap := fun b o e => kept b o (KX b o e)
   obtain ⟨as, hrd⟩ := Dw.reads (R := R) (cl := cl) hok' KX' d0 v u q r'
   exact ⟨u, as, rfl, hrd, OldK.of_keep kept, os, bare⟩
theorem layable_weight {ds : List WData} (h : WData.layableAll ds = true) : ∀ d ∈ ds, d.weight <= 1048576 := fun d hd =>
 (PySem.W.layableW_iff.mp (List.all_eq_true.mp h d hd)).2.2
theorem encAll_len : ∀ (cs : List Codec) (a : Codec.denoteAll cs), (Codec.encAll cs a).length = cs.length
 | [], _ => rfl
 | c :: cs, a => by
  show (Codec.encAll cs a.2).length + 1 = cs.length + 1
  rw [encAll_len cs a.2]
theorem walk_spec {r : OpenSpec} {k : Nat} {q : Program} {loose : List Str} {XP : (Str -> Option Value) -> Heap -> Prop} {YP : World -> Heap -> Prop} {d : DefRec} {K : Params -> PySem.W.Frag} {CX : World -> CXT} {ps : List Str} {sp : World -> Sp}
  (hwell : r.wellSaid = true) (hdf : d.params.defaults = []) (hlen : r.args.length = ps.length) (hr : Room k callerA)
  (hY : ∀ (w : World) (h : Heap), YP w h -> (K w.params).In h)
  (F : ∀ (w : World) (mg : Str -> Option Value) (fa : Addr) (h : Heap), YP w h -> (K w.params).In h -> h.Ns mainGlobals mg -> mg d.name = some (.ref fa) ->
   ∃ fd : FuncData, (∀ (s : Shared) (us : List Value), us.length = ps.length -> BindsTo s fd ⟨us, []⟩ (ps.zip us)) /\
    ∀ base : Heap, (K w.params).In base -> base.Ns mainGlobals mg -> FnOk r.prog w (K w.params) mg base (CX w) k fa fd ps (sp w))
  (hsp : ∀ (w : World) (H : Hp) (xs : List V) (a : Codec.denoteAll r.args), OnlyF H -> Codec.withinAll r.args a = true -> Codec.app r.args r.asked a = true -> DwAll (K w.params) H xs (Codec.encAll r.args a) ->
   sp w xs H (fun v H' => Dw (K w.params) H' v (r.ret.enc (Codec.app r.args r.f a))) fun _ _ _ => False)
  (hCX : ∀ (w : World) (H : Hp) (s : Shared) (e : Value) (s' : Shared), CX w [] H s (fun _ _ _ => False) e s' -> False) :
  PySem.W.WalkOS q loose XP YP r d [] (fun f vs => PySem.call f vs) := by
 intro w s_0 s₁ mg mb G Y fa o pm cd doc dV kV ho hd hcd hD hmg hg args vals as hpre hlay hrd hwl hlo
 obtain ⟨a, e1, e2⟩ := PySem.W.os_pre_some hpre
 obtain ⟨e3, hwi⟩ := Codec.encAll_of_decAll r.args args a e1
 subst e3
 have KX := hY w _ Y
 obtain ⟨fd, hb, hF⟩ := F w mg fa _ Y KX G.T.g hmg
 refine PySem.W.enter_call (codeAny_mono (spec_call (R := []) (cl := classAt s_0.heap) (d0 := r.ret.enc (Codec.app r.args r.f a)) KX G.T.g G.T.b G.T.builtins G.T.nolimit hg hwl (pl_encAll _ _) (layable_weight hlay) hr hF hb (by rw [encAll_len]; exact hlen)
  (fun H xs hO hS => hsp w H xs a hO hwi e2 hS) fun H e s' => hCX w H s₁ e s') fun r' s' hq => ?_)
 obtain ⟨u, as', rfl, h1, h2, h3, h4⟩ := hq
 exact ⟨.inl ⟨u, _, as', rfl, fun _ => rfl, h1, (OpenSpec.post_iff hwell hwi _ _).mpr rfl, fun z => Bool.noConfusion (show false = true from z)⟩, h2, h3, h4⟩
theorem walk_specK {r : OpenSpec} {k : Nat} {q : Program} {loose : List Str} {XP : (Str -> Option Value) -> Heap -> Prop} {YP : World -> Heap -> Prop} {d : DefRec} {K : Params -> PySem.W.Frag} {CX : CXT} {ps : List Str} {sp : PySem.W.Frag -> Sp}
  (hwell : r.wellSaid = true) (hdf : d.params.defaults = []) (hlen : r.args.length = ps.length) (hr : Room k callerA)
  (hY : ∀ (w : World) (h : Heap), YP w h -> (K w.params).In h)
  (F : ∀ (w : World) (mg : Str -> Option Value) (fa : Addr) (h : Heap), YP w h -> (K w.params).In h -> h.Ns mainGlobals mg -> mg d.name = some (.ref fa) ->
   ∃ fd : FuncData, (∀ (s : Shared) (us : List Value), us.length = ps.length -> BindsTo s fd ⟨us, []⟩ (ps.zip us)) /\
    ∀ base : Heap, (K w.params).In base -> base.Ns mainGlobals mg -> FnOk r.prog w (K w.params) mg base CX k fa fd ps (sp (K w.params)))
  (hsp : ∀ (K : PySem.W.Frag) (H : Hp) (xs : List V) (a : Codec.denoteAll r.args), OnlyF H -> Codec.withinAll r.args a = true -> Codec.app r.args r.asked a = true -> DwAll K H xs (Codec.encAll r.args a) ->
   sp K xs H (fun v H' => Dw K H' v (r.ret.enc (Codec.app r.args r.f a))) fun _ _ _ => False)
  (hCX : ∀ (H : Hp) (s : Shared) (e : Value) (s' : Shared), CX [] H s (fun _ _ _ => False) e s' -> False) :
  PySem.W.WalkOS q loose XP YP r d [] (fun f vs => PySem.call f vs) :=
 walk_spec (K := K) (CX := fun _ => CX) (sp := fun w => sp (K w.params)) hwell hdf hlen hr hY F (fun w H xs a h1 h2 h3 h4 => hsp (K w.params) H xs a h1 h2 h3 h4) fun _ H s e s' => hCX H s e s'
end L2
end
end
section
namespace PySem.W.Fast
def tw3705274032591520806:=0
def tw17054731051489148818:=0
def tw629784764635985857:=0
def tw7877759376888002362:=0
def tw12853139347169984352:=0
def tw137573341708617139:=0
def tw15472749823003997372:=0
def tw1112125403585331958:=0
def tw8123654095857540602:=0
def tw11541785942897212725:=0
def tw17497712954798581654:=0
def tw9064572020424720597:=0
def tw1573742547102176515:=0
def tw11831924873508824936:=0
def tw3090918639354940197:=0
def tw2587414838732486650:=0
def tw6918756886460394872:=0
def tw1797169344917363437:=0
def tw17001614008071473580:=0
def tw17096476585960464288:=0
def tw11007422915816973736:=0
def tw1356941723890372707:=0
def tw7679802198950329090:=0
def tw12356502772293634187:=0
def tw11502871149913108606:=0
def tw17282483124834324567:=0
def tw17572807282242645999:=0
def tw2110582677831303769:=0
def tw6071304393547219250:=0
def tw11880111998365877248:=0
def tw5832216057001907706:=0
def tw13095015443116322495:=0
def tw845291092225261853:=0
def tw164114861772515126:=0
def tw7881916465192506840:=0
def tw1408020272394766339:=0
def tw2541744375140757004:=0
def tw14691461642300882416:=0
def tw13048985988966250265:=0
def tw17788495101357151002:=0
def tw4074487770299574374:=0
def tw13163780367756211113:=0
def tw10461372733234709960:=0
def tw6927025356632415379:=0
def tw6132461310059248774:=0
def tw12155351514006542593:=0
def tw16878088094497995662:=0
def tw16312800070863762768:=0
def tw11935325374556711239:=0
def tw17664336830702817460:=0
def tw14388319157313654825:=0
def tw1495043375669681823:=0
def tw11730939475832270945:=0
def tw17774917426635485767:=0
def tw13751322757771660623:=0
def tw9766171488732572174:=0
def tw1168327104677343880:=0
def tw4423172674858484687:=0
def tw14498766998732051111:=0
def tw8688640756301032682:=0
def tw9482315152168556582:=0
def tw10177887155437358236:=0
def tw13935171507266770700:=0
def tw15495052756488415105:=0
def tw668729329092174844:=0
def tw11216117717710952318:=0
def tw5570573556943693617:=0
def tw17009605701755058873:=0
def tw9137451420253326822:=0
def tw16897583328549390413:=0
def tw8921097056454487012:=0
def tw6406385985885988526:=0
def tw451611913092216063:=0
def tw11117823656517572318:=0
def tw11857202473306301882:=0
def tw18108675876002579438:=0
def tw11648732506526157340:=0
def tw2803087263115405555:=0
def tw7329125240199946498:=0
end PySem.W.Fast
open PySem PySem.W PyProof.Rows
set_option maxRecDepth 100000 in
set_option maxHeartbeats 0 in
theorem PySem.Challenge.cw_slothouse_s01_answers_holds : PySem.Challenge.rw_slothouse_s01_answers.Holds := by
 w_on; k_headS; (case hw => exact ⟨[.list [.int 12]], by decide +kernel, by decide +kernel⟩)
 k_fillS
 refine L2.walk_specK (r := PySem.Challenge.rw_slothouse_s01_answers) (k := 7) (CX := L2.CX0) (ps := ["calls"]) (sp := SHP.sp_answers) (by decide +kernel) rfl rfl ⟨rfl, by decide, by decide⟩ (fun w h Y => PySem.W.kIn_of Y) ?F ?S (fun _ _ _ _ z => z)
 case F =>
  intro w mg fa h Y KX G hmg
  obtain ⟨c, Fa⟩ : ∃ c, SHP.Facts _ mg c := by
   refine' SHP.all_facts KX G ?y_g0 ?y_i0 ?y_j0 ?y_l0 ?y_c0 ?y_k0 ?y_pg0 ?y_hd0 ?y_po0 ?y_sa0 ?y_mk0 ?y_kc0 ?y_nTime ?y_nOwner ?y_g1 ?y_i1 ?y_j1 ?y_l1 ?y_c1 ?y_k1 ?y_pg1 ?y_hd1 ?y_po1 ?y_sa1 ?y_mk1 ?y_kc1 ?y_nNumber ?y_nCarrier ?y_nPlanned ?y_nReady ?y_nWeight ?y_nExempt ?y_nCancelled ?y_nPlace ?y_g2 ?y_i2 ?y_j2 ?y_l2 ?y_c2 ?y_k2 ?y_pg2 ?y_hd2 ?y_po2 ?y_sa2 ?y_mk2 ?y_kc2 ?y_nSlots ?y_nFlights ?y_nGiven ?y_eq ?y_ob ?y_con ?y_dfs
   (case y_g0 => k_is); (case y_i0 => k_is); (case y_j0 => k_is); (case y_l0 => k_is); (case y_c0 => k_is); (case y_k0 => k_is); (case y_pg0 => k_is); (case y_hd0 => k_is)
   (case y_po0 => k_is); (case y_sa0 => k_is); (case y_mk0 => k_is); (case y_kc0 => k_is); (case y_nTime => k_is); (case y_nOwner => k_is); (case y_g1 => k_is); (case y_i1 => k_is)
   (case y_j1 => k_is); (case y_l1 => k_is); (case y_c1 => k_is); (case y_k1 => k_is); (case y_pg1 => k_is); (case y_hd1 => k_is); (case y_po1 => k_is); (case y_sa1 => k_is)
   (case y_mk1 => k_is); (case y_kc1 => k_is); (case y_nNumber => k_is); (case y_nCarrier => k_is); (case y_nPlanned => k_is); (case y_nReady => k_is); (case y_nWeight => k_is); (case y_nExempt => k_is)
   (case y_nCancelled => k_is); (case y_nPlace => k_is); (case y_g2 => k_is); (case y_i2 => k_is); (case y_j2 => k_is); (case y_l2 => k_is); (case y_c2 => k_is); (case y_k2 => k_is)
   (case y_pg2 => k_is); (case y_hd2 => k_is); (case y_po2 => k_is); (case y_sa2 => k_is); (case y_mk2 => k_is); (case y_kc2 => k_is); (case y_nSlots => k_is); (case y_nFlights => k_is)
   (case y_nGiven => k_is); (case y_eq => k_is); (case y_ob => k_is)
   (case y_con => constructor <;> first | (refine' SHP.cI KX G ?y_a; (case y_a => k_is)) | (refine' PySem.W.mg_none_of KX G ?y_a; (case y_a => k_is)) | (refine' SHP.tI KX G ?y_a ?y_l; (case y_a => k_is); (case y_l => k_is)))
   (case y_dfs => constructor <;> first | (refine' SHP.dA KX G ?y_a ?y_l ?y_c ?y_k ?y_b; (case y_a => k_is); (case y_l => k_is); (case y_c => k_is); (case y_k => k_is); (case y_b => first | (exact fun _ _ _ _ _ _ us hl => (match us, hl with | [_], _ => rfl)) | (exact fun _ _ _ _ _ _ us hl => (match us, hl with | [_, _], _ => rfl)) | (exact fun _ _ _ _ _ _ us hl => (match us, hl with | [_, _, _], _ => rfl)) | (exact fun _ _ _ _ _ _ us hl => (match us, hl with | [_, _, _, _], _ => rfl)) | (exact fun _ _ _ _ _ _ us hl => (match us, hl with | [_, _, _, _, _], _ => rfl)))) | (refine' SHP.aA KX G ?y_a ?y_l ?y_c ?y_k; (case y_a => k_is); (case y_l => k_is); (case y_c => k_is); (case y_k => k_is)))
  obtain ⟨f, fd, F, hm, hb⟩ := Fa.A
  have e : fa = f := by
   have := hmg.symm.trans hm
   injection this with this
   injection this
  subst e
  exact ⟨fd, hb, fun base _ _ => SHP.all_ok Fa F⟩
 case S =>
  intro K H xs a hO hwi hask hx
  cases hx with
  | cons h1 h2 =>
   cases h2
   cases h1 with
   | lst hs ha =>
    have e := L2.ints_dw a.1 _ ha
    subst e
    exact ⟨_, a.1, rfl, hs, hask, fun H' p hp => .lst (L2.SqL.of hp) (L2.dw_ints _)⟩
end
