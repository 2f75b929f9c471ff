import PyProof.Rows.All
import Wide.All
import OpenK.AllK
import Wide.FinOn
import Lean
import PyProof.EqAt
import PyProof.EqKinds
import PyProof.TupleCall
import PyProof.DictWalks
import PyProof.ExcAttrAll.ValueError
import PyProof.ExcBaseAll.ValueError
import PyProof.ZipIter
import PyProof.SumWalk
import PySem.Challenge.RW_ownshelf_k25_whole_sets_by_sets
set_option Elab.async false
set_option linter.all false
set_option maxRecDepth 100000
noncomputable section
namespace L2
open PySem PySem.Spec PyProof.Rows

abbrev Key := Sum Int Str
def keyIs : Key → Value → Bool
 | .inl k,v => Value.isInt k v
 | .inr x,v => Value.isStrOf x v
def keyH (w : World) : Key → Int
 | .inl k => hashInt k
 | .inr x => hashStr w x
theorem keyIs_shape : ∀ {k : Key} {v : Value},keyIs k v = true → (∃ i t,k = Sum.inl i ∧ v = Value.int i t) ∨ (∃ x t,k = Sum.inr x ∧ v = Value.str x t)
 | .inl i,v,h => by
   obtain ⟨t,e⟩ := Value.isInt_shape (k := i) (v := v) h
   exact .inl ⟨i,t,rfl,e⟩
 | .inr x,v,h => by
   obtain ⟨t,e⟩ := Value.isStrOf_shape (x := x) (v := v) h
   exact .inr ⟨x,t,rfl,e⟩
theorem key_ll (a b : Int) : decide ((Sum.inl a : Key) = Sum.inl b) = (a == b) := by
 by_cases e : a = b
 · subst e; simp
 · have h : ¬ (Sum.inl a : Key) = Sum.inl b := fun q => e (Sum.inl.inj q)
   rw [decide_eq_false h]
   exact (beq_eq_false_iff_ne.mpr e).symm
theorem key_rr (a b : Str) : decide ((Sum.inr a : Key) = Sum.inr b) = decide (a = b) := by
 by_cases e : a = b
 · subst e; simp
 · have h : ¬ (Sum.inr a : Key) = Sum.inr b := fun q => e (Sum.inr.inj q)
   rw [decide_eq_false h,decide_eq_false e]
theorem key_lr (a : Int) (b : Str) : decide ((Sum.inl a : Key) = Sum.inr b) = false := decide_eq_false (fun q => nomatch q)
theorem key_rl (a : Str) (b : Int) : decide ((Sum.inr a : Key) = Sum.inl b) = false := decide_eq_false (fun q => nomatch q)

def mixKind (prog : Program) (w : World) : PySem.KeyKind prog w Key where
 is := keyIs
 hash := keyH w
 inj := fun v a b ha hb => by
   rcases keyIs_shape ha with ⟨i,t,rfl,rfl⟩ | ⟨x,t,rfl,rfl⟩
   · rcases keyIs_shape hb with ⟨j,u,rfl,e⟩ | ⟨y,u,rfl,e⟩
     · injection e with e1 _; rw [e1]
     · exact nomatch e
   · rcases keyIs_shape hb with ⟨j,u,rfl,e⟩ | ⟨y,u,rfl,e⟩
     · exact nomatch e
     · injection e with e1 _; rw [e1]
 byValue := fun k v h => by
   rcases keyIs_shape h with ⟨i,t,rfl,rfl⟩ | ⟨x,t,rfl,rfl⟩ <;> rfl
 pyHash := fun hv h => by
   rcases keyIs_shape hv with ⟨i,t,rfl,rfl⟩ | ⟨x,t,rfl,rfl⟩
   · exact wpAny_pyHash_int h
   · exact wpAny_pyHash_str h
 eqBool := fun hu hv h => by
   rcases keyIs_shape hu with ⟨i,t,rfl,rfl⟩ | ⟨x,t,rfl,rfl⟩
   · rcases keyIs_shape hv with ⟨j,u,rfl,rfl⟩ | ⟨y,u,rfl,rfl⟩
     · rw [key_ll] at h; exact wpAny_eqBool_int h
     · rw [key_lr] at h; exact SeqAt.EqAt.int_str i t y u _ _ _ _ h
   · rcases keyIs_shape hv with ⟨j,u,rfl,rfl⟩ | ⟨y,u,rfl,rfl⟩
     · rw [key_rl] at h; exact SeqAt.EqAt.str_int x t j u _ _ _ _ h
     · rw [key_rr] at h; exact wpAny_eqBool_str h
 «strs» := fun k x t v h => by
   rcases keyIs_shape h with ⟨i,u,rfl,e⟩ | ⟨y,u,rfl,e⟩
   · exact nomatch e
   · injection e with e1 _
     subst e1
     cases v <;> rfl

end L2

namespace L2
open PySem PySem.Spec PyProof.Rows

inductive V where
 | non | bl (b : Bool) | int (i : Int) | str (x : Str) | byt (b : Array UInt8) | flt (b : UInt64) | ref (a : Addr) | ty (n : String)
 deriving DecidableEq

def RelV : V → Value → Prop
 | .non,u => u = Value.none
 | .bl b,u => u = Value.bool b
 | .int i,u => ∃ t,u = Value.int i t
 | .str x,u => ∃ t,u = Value.str x t
 | .byt b,u => ∃ t,u = Value.bytes b t
 | .flt b,u => ∃ t,u = Value.float b t
 | .ref a,u => u = Value.ref a
 | .ty n,u => u = Value.type n

abbrev Vals : List V → List Value → Prop := Paired RelV
theorem Vals.length {xs : List V} {us : List Value} (r : Vals xs us) : xs.length = us.length := Paired.length r
theorem Vals.get : ∀ {xs : List V} {us : List Value} {i : Nat} {x : V},Vals xs us → xs[i]? = some x → ∃ u,us[i]? = some u ∧ RelV x u
 | _,_,_,_,.nil,e => by simp at e
 | _,_,0,_,.cons r _,e => by simp at e; subst e; exact ⟨_,rfl,r⟩
 | _,_,i + 1,x,.cons _ t,e => by
   obtain ⟨u,h1,h2⟩ := Vals.get (i := i) (x := x) t (by simpa using e)
   exact ⟨u,by simpa using h1,h2⟩
theorem Vals.append : ∀ {xs ys : List V} {us ws : List Value},Vals xs us → Vals ys ws → Vals (xs ++ ys) (us ++ ws)
 | _,_,_,_,.nil,s => s
 | _,_,_,_,.cons r t,s => .cons r (Vals.append t s)
theorem Vals.take : ∀ {xs : List V} {us : List Value} (n : Nat),Vals xs us → Vals (xs.take n) (us.take n)
 | _,_,0,_ => .nil
 | _,_,_ + 1,.nil => .nil
 | _,_,n + 1,.cons r t => .cons r (Vals.take n t)
theorem Vals.drop : ∀ {xs : List V} {us : List Value} (n : Nat),Vals xs us → Vals (xs.drop n) (us.drop n)
 | _,_,0,r => r
 | _,_,_ + 1,.nil => .nil
 | _,_,n + 1,.cons _ t => Vals.drop n t
def RelO : Option V → Option Value → Prop
 | some v,some u => RelV v u
 | none,none => True
 | _,_ => False
def KV {κ : Type} : List (κ × V) → List (κ × Value) → Prop := Paired fun (p : κ × V) (q : κ × Value) => p.1 = q.1 ∧ RelV p.2 q.2

def kV : Key → V
 | .inl i => .int i
 | .inr x => .str x

inductive HO where
   | lst (xs : List V)
   | tup (xs : List V)
   | dK (kvs : List (Key × V)) | dT (kvs : List (List Key × V))
   | set (S : Int → Bool) (n : Nat)
   | ins (C dx : Addr) (fs : List (Str × V))
   | own (x : Addr)
   | xd (fs : List (Str × V))
   | met (f x : Addr)
   | rng (lo hi : Int)
   | frz (o : Obj) (u : HO)
   | tbl (ps : Array Value)
   | ext (φ : Heap → Prop)

abbrev Hp := Addr → Option HO
def upd (H : Hp) (a : Addr) (o : HO) : Hp := fun b => if b = a then some o else H b
theorem upd_same {H : Hp} {a : Addr} {o : HO} : upd H a o a = some o := by unfold upd; rw [if_pos rfl]
theorem upd_ne {H : Hp} {a b : Addr} {o : HO} (h : b ≠ a) : upd H a o b = H b := by unfold upd; rw [if_neg h]
theorem ne_of_none {H : Hp} {a b : Addr} {o : HO} (h : H a = some o) (h' : H b = none) : a ≠ b := by
 intro e; subst e; rw [h] at h'; cases h'

section
variable (P : Program) (w : World)
def ObjOk (H : Hp) (h : Heap) (a : Addr) : HO → Prop
 | .lst xs => xs.length ≤ sizeLine ∧ ∃ (its : List Value) (n : Nat),Vals xs its ∧ h.get? a = some { cls := .type "list",data := .seq its.toArray n }
 | .tup xs => xs.length ≤ sizeLine ∧ ∃ its : List Value,Vals xs its ∧ IsTup h a its.toArray
 | .dK kvs => kvs.length ≤ sizeLine ∧ (a == sysModules) = false ∧ ∃ vs,KV kvs vs ∧ h.DictOf (mixKind P w) a vs
 | .dT kvs => kvs.length ≤ sizeLine ∧ (a == sysModules) = false ∧ ∃ xs : List (List Key × Addr × Value),
     Paired (fun (p : List Key × V) (q : List Key × Addr × Value) => p.1 = q.1 ∧ H q.2.1 = some (.tup (p.1.map kV)) ∧ RelV p.2 q.2.2) kvs xs ∧
     ∃ o es ep,h.get? a = some o ∧ o.ExactDict ∧ o.data = .dict es ep ∧ es.toList = xs.map (entryOfKey (tupleKind (mixKind P w))) ∧ (xs.map (·.1)).Nodup
 | .set S n => h.SetOf (intKind P w) a S n
 | .ins C dx fs => H dx = some (.own a) ∧ fs.length ≤ 1000 ∧ dx ≠ a ∧ h.get? a = some (PySem.W.instObj C dx) ∧
     ∃ mA,h.Ns1 dx mA ∧ (∀ f,RelO (fs.lookup f) (mA f)) ∧ PySem.Within mA (fs.map (·.1))
 | .own _ => ∃ o,h.get? a = some o
 | .xd fs => ∃ mA,h.Ns1 a mA ∧ ∀ f,RelO (fs.lookup f) (mA f)
 | .rng lo hi => ∃ t u v,h.get? a = some { cls := .type "range",data := .fields #[.int lo t,.int hi u,.int 1 v] }
 | .frz o u => h.get? a = some o ∧ ObjOk H h a u
 | .tbl ps => h.get? a = some { cls := .none,data := .fields ps }
 | .met f x => h.get? a = some (PySem.W.methodObj (.ref f) (.ref x))
 | .ext φ => φ h ∧ (∃ o,h.get? a = some o) ∧ ∀ h1 h2 : Heap,φ h1 → (∀ o,h1.get? a = some o → h2.get? a = some o) → φ h2
def HOk (H : Hp) (h : Heap) : Prop := ∀ a o,H a = some o → ObjOk P w H h a o
end

section
variable {P : Program} {w : World} {H H' : Hp} {h h' : Heap} {a : Addr} {o : HO}
theorem ObjOk.lt (x : ObjOk P w H h a o) : a < h.objs.size := by
 cases o with
 | lst xs => obtain ⟨_,_,_,_,e⟩ := x; exact Heap.lt_size e
 | tup xs => obtain ⟨_,_,_,p⟩ := x; exact p.lt
 | dK kvs => obtain ⟨_,_,_,_,o,_,_,e,_⟩ := x; exact Heap.lt_size e
 | dT kvs => obtain ⟨_,_,_,_,o,_,_,e,_⟩ := x; exact Heap.lt_size e
 | set S n => obtain ⟨o,_,_,_,e,_⟩ := x; exact Heap.lt_size e
 | ins C dx fs => obtain ⟨_,_,_,e,_⟩ := x; exact Heap.lt_size e
 | own y => obtain ⟨_,e⟩ := x; exact Heap.lt_size e
 | xd fs => obtain ⟨_,⟨_,_,_,e,_⟩,_⟩ := x; exact Heap.lt_size e
 | rng lo hi => obtain ⟨_,_,_,e⟩ := x; exact Heap.lt_size e
 | frz ob u => obtain ⟨e,_⟩ := x; exact Heap.lt_size e
 | tbl ps => exact Heap.lt_size (show h.get? a = some _ from x)
 | met f y => exact Heap.lt_size (show h.get? a = some _ from x)
 | ext φ => obtain ⟨_,⟨_,e⟩,_⟩ := x; exact Heap.lt_size e
theorem Paired.mapP {α β : Type} {F G : α → β → Prop} : ∀ {l₁ : List α} {l₂ : List β},Paired F l₁ l₂ → (∀ a b,F a b → G a b) → Paired G l₁ l₂
 | _,_,.nil,_ => .nil
 | _,_,.cons r t,f => .cons (f _ _ r) (Paired.mapP t f)
theorem ObjOk.stay (x : ObjOk P w H h a o) (k : ∀ b u,(b = a ∨ H b = some (.own a)) → h.get? b = some u → h'.get? b = some u)
   (ho : ∀ b,H b = some (.own a) → H' b = some (.own a)) (ht : ∀ b xs,H b = some (.tup xs) → H' b = some (.tup xs)) : ObjOk P w H' h' a o := by
 induction o with
 | lst xs => obtain ⟨z,its,n,r,e⟩ := x; exact ⟨z,its,n,r,k _ _ (.inl rfl) e⟩
 | tup xs => obtain ⟨z,its,r,ob,e,c⟩ := x; exact ⟨z,its,r,ob,k _ _ (.inl rfl) e,c⟩
 | dK kvs => obtain ⟨z,y,vs,r,ob,es,ep,e,c⟩ := x; exact ⟨z,y,vs,r,ob,es,ep,k _ _ (.inl rfl) e,c⟩
 | dT kvs =>
   obtain ⟨z,y,xs,r,ob,es,ep,e,c⟩ := x
   exact ⟨z,y,xs,Paired.mapP r fun p q z => ⟨z.1,ht _ _ z.2.1,z.2.2⟩,ob,es,ep,k _ _ (.inl rfl) e,c⟩
 | set S n => obtain ⟨ob,es,ep,t,e,c⟩ := x; exact ⟨ob,es,ep,t,k _ _ (.inl rfl) e,c⟩
 | ins C dx fs =>
   obtain ⟨d,z,ne,e,mA,⟨od,es,ep,e2,c⟩,r⟩ := x
   exact ⟨ho _ d,z,ne,k _ _ (.inl rfl) e,mA,⟨od,es,ep,k _ _ (.inr d) e2,c⟩,r⟩
 | own y => obtain ⟨ob,e⟩ := x; exact ⟨ob,k _ _ (.inl rfl) e⟩
 | xd fs => obtain ⟨mA,⟨od,es,ep,e,c⟩,r⟩ := x; exact ⟨mA,⟨od,es,ep,k _ _ (.inl rfl) e,c⟩,r⟩
 | rng lo hi => obtain ⟨t,u,v,e⟩ := x; exact ⟨t,u,v,k _ _ (.inl rfl) e⟩
 | frz ob u ih => obtain ⟨e,q⟩ := x; exact ⟨k _ _ (.inl rfl) e,ih q⟩
 | tbl ps =>
   have e : h.get? a = some { cls := .none,data := .fields ps } := x
   show h'.get? a = some { cls := .none,data := .fields ps }
   exact k a _ (.inl rfl) e
 | met f y =>
   have e : h.get? a = some (PySem.W.methodObj (.ref f) (.ref y)) := x
   show h'.get? a = some (PySem.W.methodObj (.ref f) (.ref y))
   exact k a _ (.inl rfl) e
 | ext φ => obtain ⟨p,⟨o,e⟩,st⟩ := x; exact ⟨st _ _ p fun o q => k _ _ (.inl rfl) q,⟨o,k _ _ (.inl rfl) e⟩,st⟩
theorem HOk.lt (x : HOk P w H h) (e : H a = some o) : a < h.objs.size := (x a o e).lt
theorem HOk.fresh (x : HOk P w H h) (e : h.objs.size ≤ a) : H a = none := by
 cases q : H a with
 | none => rfl
 | some u => exact absurd (Nat.lt_of_lt_of_le (x.lt q) e) (Nat.lt_irrefl _)
theorem HOk.kept (x : HOk P w H h) (k : ∀ b u,h.get? b = some u → h'.get? b = some u) : HOk P w H h' := fun a o e =>
 (x a o e).stay (fun b u _ q => k b u q) (fun _ q => q) fun _ _ q => q
theorem HOk.laid (x : HOk P w H h) (k : ∀ b u,h.get? b = some u → h'.get? b = some u) (hp : h.objs.size ≤ a) (new : ObjOk P w (upd H a o) h' a o) : HOk P w (upd H a o) h' := fun b u e => by
 have hn := x.fresh hp
 by_cases hb : b = a
 · subst hb; rw [upd_same] at e; cases e; exact new
 · rw [upd_ne hb] at e
   exact (x b u e).stay (fun c v _ q => k c v q) (fun c q => by rw [upd_ne (ne_of_none q hn)]; exact q) fun c xs q => by rw [upd_ne (ne_of_none q hn)]; exact q
end

def Rd (H : Hp) (a : Addr) (u : HO) : Prop := H a = some u ∨ ∃ o,H a = some (.frz o u)
theorem Rd.ok {P : Program} {w : World} {H : Hp} {h : Heap} {a : Addr} {u : HO} (r : Rd H a u) (x : HOk P w H h) : ObjOk P w H h a u := by
 rcases r with r | ⟨o,r⟩
 · exact x a u r
 · obtain ⟨_,q⟩ := x a _ r
   exact q
def Mut : Option HO → Prop
 | some (.lst _) => True
 | some (.dK _) => True
 | some (.dT _) => True
 | some (.set _ _) => True
 | some (.ins _ _ _) => True
 | some (.ext _) => True
 | _ => False
section
variable {P : Program} {w : World} {H : Hp} {h h' : Heap} {x e : Addr} {o' : HO}
theorem HOk.write (ok : HOk P w H h) (mu : Mut (H x)) (he : e = x ∨ H e = some (.own x)) (k : ∀ b u,b ≠ e → h.get? b = some u → h'.get? b = some u) (heo : ∃ u,h'.get? e = some u)
   (new : ObjOk P w (upd H x o') h' x o') : HOk P w (upd H x o') h' := fun b u q => by
 have nown : ∀ c y,H c = some (.own y) → c ≠ x := fun c y r z => by subst z; rw [r] at mu; exact mu
 have ntup : ∀ c xs,H c = some (.tup xs) → c ≠ x := fun c xs r z => by subst z; rw [r] at mu; exact mu
 by_cases hb : b = x
 · subst hb; rw [upd_same] at q; cases q; exact new
 · rw [upd_ne hb] at q
   by_cases hbe : b = e
   · have q' : H b = some (.own x) := by
       rcases he with z | z
       · exact absurd (hbe.trans z) hb
       · rw [hbe]; exact z
     rw [q] at q'; cases q'
     obtain ⟨v,hv⟩ := heo
     exact ⟨v,by rw [hbe]; exact hv⟩
   · refine (ok b u q).stay (fun c v hc r => k c v ?_ r) (fun c r => by rw [upd_ne (nown c b r)]; exact r) fun c xs r => by rw [upd_ne (ntup c xs r)]; exact r
     rcases hc with rfl | hc
     · exact hbe
     · rintro rfl
       rcases he with z | z
       · exact nown c b hc z
       · rw [hc] at z; cases z; exact hb rfl
end

structure Un (fs ex : List Addr) (H H' : Hp) (h h' : Heap) : Prop where
 keep : ∀ b o,h.get? b = some o → H b = none → b ∉ fs → b ∉ ex → h'.get? b = some o
 slot : ∀ b o,h.get? b = some o → H b = none → b ∈ fs → b ∉ ex → ∃ sl,h'.get? b = some { o with slots := sl }
 free : ∀ b o,h.get? b = some o → H b = none → b ∉ ex → H' b = none
 there : ∀ b o,h.get? b = some o → b ∉ ex → ∃ o',h'.get? b = some o'
 tups : ∀ b xs,H b = some (.tup xs) → H' b = some (.tup xs)
 frzs : ∀ b o u,H b = some (.frz o u) → H' b = some (.frz o u)
 tbls : ∀ b ps,H b = some (.tbl ps) → ∃ more,H' b = some (.tbl (ps ++ more))
section
variable {fs fs' ex ex' : List Addr} {H H1 H2 : Hp} {h h1 h2 h' : Heap} {a x e : Addr} {o : HO}
theorem Un.any (u : Un fs ex H H1 h h1) {b : Addr} {ob : Obj} (q : h.get? b = some ob) (n : H b = none) (hx : b ∉ ex) : ∃ sl,h1.get? b = some { ob with slots := sl } := by
 by_cases hb : b ∈ fs
 · exact u.slot b ob q n hb hx
 · exact ⟨ob.slots,u.keep b ob q n hb hx⟩
theorem Un.kept (k : ∀ b u,h.get? b = some u → h'.get? b = some u) : Un fs ex H H h h' :=
 ⟨fun b ob q _ _ _ => k b ob q,fun b ob q _ _ _ => ⟨ob.slots,k b ob q⟩,fun _ _ _ n _ => n,fun b ob q _ => ⟨ob,k b ob q⟩,fun _ _ q => q,fun _ _ _ q => q,fun _ ps q => ⟨#[],by rw [q]; simp⟩⟩
theorem Un.refl : Un fs ex H H h h := Un.kept fun _ _ q => q
theorem Un.laid (k : ∀ b u,h.get? b = some u → h'.get? b = some u) (hp : h.objs.size ≤ a) (hn : H a = none) : Un fs ex H (upd H a o) h h' where
 keep := fun b u q _ _ _ => k b u q
 slot := fun b u q _ _ _ => ⟨u.slots,k b u q⟩
 free := fun b u q n _ => by rw [upd_ne (Nat.ne_of_lt (Nat.lt_of_lt_of_le (Heap.lt_size q) hp))]; exact n
 there := fun b u q _ => ⟨u,k b u q⟩
 tups := fun b xs q => by rw [upd_ne (ne_of_none q hn)]; exact q
 frzs := fun b u xs q => by rw [upd_ne (ne_of_none q hn)]; exact q
 tbls := fun b ps q => ⟨#[],by rw [upd_ne (ne_of_none q hn),q]; simp⟩
theorem Un.write (mu : Mut (H x)) (he : e = x ∨ H e = some (.own x)) (k : ∀ b u,b ≠ e → h.get? b = some u → h'.get? b = some u) (heo : ∃ u,h'.get? e = some u) : Un fs ex H (upd H x o) h h' := by
 have hx : ∀ b,H b = none → b ≠ x := fun b n z => by subst z; rw [n] at mu; exact mu
 have hb : ∀ b,H b = none → b ≠ e := fun b n z => by
   subst z
   rcases he with r | r
   · exact hx b n r
   · rw [n] at r; cases r
 have hm : ∀ b u,H b = some u → ¬ Mut (some u) → b ≠ x := fun b u q nm z => by subst z; rw [q] at mu; exact nm mu
 refine ⟨fun b u q n _ _ => k b u (hb b n) q,fun b u q n _ _ => ⟨u.slots,k b u (hb b n) q⟩,fun b u q n _ => by rw [upd_ne (hx b n)]; exact n,fun b u q _ => ?_,
   fun b xs q => by rw [upd_ne (hm b _ q fun z => z)]; exact q,fun b u xs q => by rw [upd_ne (hm b _ q fun z => z)]; exact q,fun b ps q => ⟨#[],by rw [upd_ne (hm b _ q fun z => z),q]; simp⟩⟩
 by_cases hbe : b = e
 · subst hbe; exact heo
 · exact ⟨u,k b u hbe q⟩
end

def trk (h : Heap) (H : Hp) : List Addr := (List.range h.objs.size).filter fun a => (H a).isSome
def hidT (h : Heap) (H : Hp) : Heap := PySem.W.hideAll h (trk h H)
theorem hidT_size (h : Heap) (H : Hp) : (hidT h H).objs.size = h.objs.size := PySem.W.hideAll_size _ _
theorem hidT_get {h : Heap} {H : Hp} {b : Addr} {o : Obj} (e : h.get? b = some o) (n : H b = none) : (hidT h H).get? b = some o :=
 PySem.W.hideAll_get _ e fun hm => by
   have q : (H b).isSome = true := (List.mem_filter.mp hm).2
   rw [n] at q; simp at q
theorem of_hidT {h : Heap} {H : Hp} {b : Addr} {o : Obj} (e : (hidT h H).get? b = some o) : h.get? b = some o ∧ H b = none := by
 have e' : h.get? b = some o := PySem.W.of_hideAll (trk h H) e
 refine ⟨e',?_⟩
 cases q : H b with
 | none => rfl
 | some x =>
   have hm : b ∈ trk h H := List.mem_filter.mpr ⟨List.mem_range.mpr (Heap.lt_size e'),by simp [q]⟩
   have z : (hidT h H).get? b = none := PySem.W.hideAll_none (trk h H) hm
   rw [z] at e; cases e

def allNews (g h : Heap) (L : Addr) : List (Addr × Obj) := (List.range h.objs.size).filterMap fun a => if a = L ∨ (g.get? a).isSome = true then none else (h.get? a).map fun o => (a,o)
def rest (g h : Heap) (L d : Addr) : List (Addr × Obj) := (allNews g h L).filter fun p => decide (p.1 ≠ d)
end L2

namespace L2
open PySem PySem.Spec PyProof.Rows

structure Mod (K : PySem.W.Frag) (mg : Str → Option Value) (base : Heap) : Prop where
 kin : K.In base
 glob : base.Ns mainGlobals mg
 blt : ∃ mb,base.Ns builtinsNs mb ∧ ∀ x : Str,x ≠ "__name__" → mb x = bootBuiltins x
 nolimit : base.NoLimit

structure Cx where
 prog : Program
 w : World
 K : PySem.W.Frag
 mg : Str → Option Value
 base : Heap
 A : Around
 N : List Str
 s₀ : Shared
 H₀ : Hp
 env : Env
 outer : List Env
 stack : List Env
 ex : List Addr
 fn : Str → Bool
 calm : Bool
 pn : List (Addr × Obj)
 xe : Value → Shared → Prop
def frs (l : List Env) : List Addr := l.filterMap (·.frame)
abbrev Cx.fs (X : Cx) : List Addr := frs X.outer

def Vis (sc : Scope) (x : Str) : Prop := sc.names.lookup x = some .local ∨ sc.names.lookup x = some .cell ∨ sc.names.lookup x = some .free
def Loc (sc : Scope) (x : Str) : Prop := sc.names.lookup x = some .local ∨ sc.names.lookup x = some .cell
def Look (env : Env) (h : Heap) (m : Str → Option Value) (x : Str) (u : Value) : Prop :=
 (env.kindOf x = some .local ∧ m x = some u) ∨ ((env.kindOf x = some .cell ∨ env.kindOf x = some .free) ∧ ∃ c,env.cells.lookup x = some c ∧ h.IsCell c (some u))

structure Cx.Ok (X : Cx) : Prop where
 mod : Mod X.K X.mg X.base
 kind : X.env.scope.kind = .function
 glob : X.env.globals = mainGlobals
 blt : X.env.builtins = builtinsNs
 above : X.s₀.heap.objs.size ≤ X.env.locals
 inj : ∀ x y c,X.env.cells.lookup x = some c → X.env.cells.lookup y = some c → x = y
 has : ∀ x,(X.env.kindOf x = some .cell ∨ X.env.kindOf x = some .free) → ∃ c,X.env.cells.lookup x = some c
 cab : ∀ x c,X.fn x = true → X.env.cells.lookup x = some c → X.s₀.heap.objs.size ≤ c
 hd : X.calm = true → X.A.handled = none
 frames : X.A.frames = some X.stack
 stk : X.stack = X.outer ∨ (X.stack = X.env :: X.outer ∧ X.env.frame = some X.env.locals)
 exf : ∀ b ∈ X.ex,b ≠ X.env.locals ∧ ∀ x c,X.env.cells.lookup x = some c → c ≠ b
 bs : ∀ b o,X.base.get? b = some o → X.s₀.heap.get? b = some o ∧ X.H₀ b = none
 bsz : X.base.objs.size ≤ X.s₀.heap.objs.size
 noex : ∀ b o,X.base.get? b = some o → b ∉ X.ex
 exfs : ∀ b ∈ X.ex,b ∉ X.fs
 funs : X.s₀.heap.FunFrames X.base X.outer
 frf : ∀ b ∈ X.fs,X.H₀ b = none

structure Inv (X : Cx) (pins : List (Addr × Obj)) (σ : List (Option V)) (H : Hp) (s : Shared) : Prop where
 ok : X.Ok
 os : s.os = X.s₀.os
 bare : AllBare s.gens
 base : Un X.fs X.ex X.H₀ H X.s₀.heap s.heap
 loc : ∃ m,s.heap.Ns X.env.locals m ∧ ∀ (i : Nat) (x : Str) (v : V),X.N[i]? = some x → σ[i]? = some (some v) → Vis X.env.scope x → ∃ u,RelV v u ∧ Look X.env s.heap m x u
 cell : ∀ x c,X.env.cells.lookup x = some c → ∃ v,s.heap.IsCell c v
 free : H X.env.locals = none
 freeC : ∀ x c,X.env.cells.lookup x = some c → H c = none
 pin : ∀ p ∈ X.pn ++ pins,s.heap.get? p.1 = some p.2 ∧ H p.1 = none ∧ p.1 ≠ X.env.locals ∧ p.1 ∉ X.fs ∧ ∀ v,p.2.data ≠ .cell v
 hok : HOk X.prog X.w H s.heap
 len : σ.length = X.N.length

section
variable {X : Cx} {pins : List (Addr × Obj)} {σ : List (Option V)} {H H' : Hp} {s : Shared} {h' : Heap}

theorem Cx.Ok.nofr (ok : X.Ok) {b : Addr} {o : Obj} (e : X.base.get? b = some o) : b ∉ X.fs := fun hb => by
 have := (ok.funs.mem hb).1
 rw [e] at this; cases this
theorem Inv.bs (I : Inv X pins σ H s) : ∀ b o,X.base.get? b = some o → s.heap.get? b = some o ∧ H b = none := fun b o e =>
 ⟨I.base.keep b o (I.ok.bs b o e).1 (I.ok.bs b o e).2 (I.ok.nofr e) (I.ok.noex b o e),I.base.free b o (I.ok.bs b o e).1 (I.ok.bs b o e).2 (I.ok.noex b o e)⟩
theorem Inv.bk (I : Inv X pins σ H s) : ∀ b o,X.base.get? b = some o → s.heap.get? b = some o := fun b o e => (I.bs b o e).1
theorem Inv.mod (I : Inv X pins σ H s) : Mod X.K X.mg X.base := I.ok.mod
theorem Inv.kIn (I : Inv X pins σ H s) : X.K.In s.heap := I.ok.mod.kin.keeps I.bk
theorem Inv.lt (I : Inv X pins σ H s) : X.env.locals < s.heap.objs.size := let ⟨_,hn,_⟩ := I.loc; hn.lt
theorem Inv.sz (I : Inv X pins σ H s) : X.s₀.heap.objs.size ≤ s.heap.objs.size := Nat.le_trans I.ok.above (Nat.le_of_lt I.lt)
theorem Inv.nofs (I : Inv X pins σ H s) {a : Addr} (h : s.heap.objs.size ≤ a) : a ∉ X.fs := fun hb => by
 obtain ⟨_,o,ho,_⟩ := I.ok.funs.mem hb
 exact absurd (Nat.lt_of_lt_of_le (Heap.lt_size ho) (Nat.le_trans I.sz h)) (Nat.lt_irrefl _)
theorem Inv.cne (I : Inv X pins σ H s) : ∀ x c,X.env.cells.lookup x = some c → c ≠ X.env.locals := fun x c e z => by
 obtain ⟨v,o,ho,hd⟩ := I.cell x c e
 obtain ⟨m,⟨o',es,ep,ho',hd',_⟩,_⟩ := I.loc
 rw [z,ho'] at ho; cases ho; rw [hd'] at hd; cases hd
theorem Inv.funs (I : Inv X pins σ H s) : s.heap.FunFrames X.base X.outer := by
 have all : ∀ (l : List Env),(∀ b ∈ frs l,b ∈ X.fs) → X.s₀.heap.FunFrames X.base l → s.heap.FunFrames X.base l := by
   intro l
   induction l with
   | nil => intro _ _; trivial
   | cons env r ih =>
     intro hs hl
     obtain ⟨hk,⟨L,o,hf,hn,ho,hd⟩,hr⟩ := hl
     have hL : L ∈ X.fs := hs L (by unfold frs; rw [List.filterMap_cons,hf]; exact List.mem_cons_self)
     obtain ⟨sl,e⟩ := I.base.slot L o ho (I.ok.frf L hL) hL fun z => I.ok.exfs L z hL
     exact ⟨hk,⟨L,_,hf,hn,e,hd⟩,ih (fun b hb => hs b (by unfold frs; rw [List.filterMap_cons,hf]; exact List.mem_cons_of_mem _ hb)) hr⟩
 exact all X.outer (fun _ hb => hb) I.ok.funs

theorem Inv.stack (I : Inv X pins σ H s) : s.heap.FunFrames X.base X.stack := by
 rcases I.ok.stk with e | ⟨e,hf⟩
 · rw [e]; exact I.funs
 · rw [e]
   obtain ⟨m,hn,_⟩ := I.loc
   refine .cons (by rw [I.ok.kind]; decide) hf hn ?_ I.funs
   exact Heap.get?_none_of_le (Nat.le_trans I.ok.bsz I.ok.above)
theorem Inv.stkSub (I : Inv X pins σ H s) : ∀ b ∈ frs X.stack,b ∈ X.env.locals :: X.fs := fun b hb => by
 rcases I.ok.stk with e | ⟨e,hf⟩
 · rw [e] at hb; exact List.mem_cons_of_mem _ hb
 · rw [e] at hb
   unfold frs at hb
   rw [List.filterMap_cons,hf] at hb
   exact hb
theorem Inv.stkFree (I : Inv X pins σ H s) : ∀ b ∈ frs X.stack,H b = none := fun b hb => by
 rcases List.mem_cons.mp (I.stkSub b hb) with e | hb
 · rw [e]; exact I.free
 · obtain ⟨_,o,ho,_⟩ := I.ok.funs.mem hb
   exact I.base.free b o ho (I.ok.frf b hb) fun z => I.ok.exfs b z hb

theorem Inv.step {g' : Array GenState} {t' : Nat} {d' : Drawn} {ch : List Addr} (I : Inv X pins σ H s)
   (hch : ∀ b ∈ ch,(b ∈ X.ex ∨ X.s₀.heap.objs.size ≤ b) ∧ b ≠ X.env.locals ∧ (∀ x c,X.env.cells.lookup x = some c → c ≠ b) ∧ ∀ p ∈ X.pn ++ pins,p.1 ≠ b)
   (keep : ∀ b o,b ≠ X.env.locals → b ∉ X.fs → b ∉ ch → s.heap.get? b = some o → H b = none → h'.get? b = some o)
   (slot : ∀ b o,b ≠ X.env.locals → b ∈ X.fs → b ∉ ch → s.heap.get? b = some o → H b = none → ∃ sl,h'.get? b = some { o with slots := sl }) (free : ∀ b o,b ∉ ch → s.heap.get? b = some o → H b = none → H' b = none)
   (there : ∀ b o,b ∉ ch → s.heap.get? b = some o → ∃ o',h'.get? b = some o')
   (tups : ∀ b xs,H b = some (.tup xs) → H' b = some (.tup xs)) (frzs : ∀ b o u,H b = some (.frz o u) → H' b = some (.frz o u)) (tbls : ∀ b ps,H b = some (.tbl ps) → ∃ more,H' b = some (.tbl (ps ++ more)))
   (ns : ∀ m,s.heap.Ns X.env.locals m → h'.Ns X.env.locals m) (hok : HOk X.prog X.w H' h') (hg : AllBare g') :
   Inv X pins σ H' { s with heap := h',gens := g',drawn := d',toks := t' } := by
 have neL : ∀ b o,X.s₀.heap.get? b = some o → b ≠ X.env.locals := fun b o e => Nat.ne_of_lt (Nat.lt_of_lt_of_le (Heap.lt_size e) I.ok.above)
 have neC : ∀ b o,X.s₀.heap.get? b = some o → b ∉ X.ex → b ∉ ch := fun b o e hx hb => by
   rcases (hch b hb).1 with z | z
   · exact hx z
   · exact absurd (Nat.lt_of_lt_of_le (Heap.lt_size e) z) (Nat.lt_irrefl _)
 have cellK : ∀ x c,X.env.cells.lookup x = some c → ∀ v,s.heap.IsCell c v → h'.IsCell c v := fun x c e v ⟨o,ho,hd⟩ => by
   have nch : c ∉ ch := fun z => (hch c z).2.2.1 x c e rfl
   by_cases hc : c ∈ X.fs
   · obtain ⟨sl,q⟩ := slot c o (I.cne x c e) hc nch ho (I.freeC x c e)
     exact ⟨_,q,hd⟩
   · exact ⟨o,keep c o (I.cne x c e) hc nch ho (I.freeC x c e),hd⟩
 refine ⟨I.ok,I.os,hg,⟨fun b o e n hb hx => ?_,fun b o e n hb hx => ?_,fun b o e n hx => ?_,fun b o e hx => ?_,fun b xs e => tups b xs (I.base.tups b xs e),fun b o xs e => frzs b o xs (I.base.frzs b o xs e),fun b ps e => ?_⟩,?_,fun x c e => ?_,?_,fun x c e => ?_,fun p hp => ?_,hok,I.len⟩
 · exact keep b o (neL b o e) hb (neC b o e hx) (I.base.keep b o e n hb hx) (I.base.free b o e n hx)
 · obtain ⟨sl,e1⟩ := I.base.slot b o e n hb hx
   obtain ⟨sl',e2⟩ := slot b _ (neL b o e) hb (neC b o e hx) e1 (I.base.free b o e n hx)
   exact ⟨sl',e2⟩
 · obtain ⟨o',e1⟩ := I.base.there b o e hx
   exact free b o' (neC b o e hx) e1 (I.base.free b o e n hx)
 · obtain ⟨o',e1⟩ := I.base.there b o e hx
   exact there b o' (neC b o e hx) e1
 · obtain ⟨m1,e1⟩ := I.base.tbls b ps e
   obtain ⟨m2,e2⟩ := tbls b _ e1
   exact ⟨m1 ++ m2,by rw [e2,Array.append_assoc]⟩
 · obtain ⟨m,hn,hl⟩ := I.loc
   refine ⟨m,ns m hn,fun i x v e1 e2 e3 => ?_⟩
   obtain ⟨u,r,l⟩ := hl i x v e1 e2 e3
   refine ⟨u,r,?_⟩
   rcases l with l | ⟨k,c,e,z⟩
   · exact .inl l
   · exact .inr ⟨k,c,e,cellK x c e _ z⟩
 · obtain ⟨v,z⟩ := I.cell x c e
   exact ⟨v,cellK x c e v z⟩
 · obtain ⟨m,⟨o,_,_,ho,_⟩,_⟩ := I.loc
   exact free _ o (fun z => (hch _ z).2.1 rfl) ho I.free
 · obtain ⟨v,o,ho,hd⟩ := I.cell x c e
   exact free c o (fun z => (hch c z).2.2.1 x c e rfl) ho (I.freeC x c e)
 · obtain ⟨e,n,ne,nf,d⟩ := I.pin p hp
   have nch : p.1 ∉ ch := fun z => (hch p.1 z).2.2.2 p hp rfl
   exact ⟨keep p.1 p.2 ne nf nch e n,free p.1 p.2 nch e n,ne,nf,d⟩
theorem Inv.un {t' : Nat} (I : Inv X pins σ H s) (u : Un X.fs [] H H' s.heap h') (hok : HOk X.prog X.w H' h') : Inv X pins σ H' { s with heap := h',toks := t' } := by
 obtain ⟨m,⟨o,es,ep,ho,r⟩,_⟩ := id I.loc
 obtain ⟨sl,hL⟩ := u.any ho I.free (by simp)
 exact I.step (g' := s.gens) (d' := s.drawn) (ch := []) (fun _ z => nomatch z) (fun b o _ hb _ e n => u.keep b o e n hb (by simp)) (fun b o _ hb _ e n => u.slot b o e n hb (by simp)) (fun b o _ e n => u.free b o e n (by simp)) (fun b o _ e => u.there b o e (by simp)) u.tups u.frzs u.tbls (fun m' hm => by
   obtain ⟨o',es',ep',ho',r'⟩ := hm
   rw [ho] at ho'; cases ho'
   exact ⟨_,es',ep',hL,r'⟩) hok I.bare
theorem Inv.call {g' : Array GenState} {t' : Nat} {d' : Drawn} {ch : List Addr} (I : Inv X pins σ H s) (u : Un (frs X.stack) ch H H' s.heap h') (hok : HOk X.prog X.w H' h') (hg : AllBare g')
   (hch : ∀ b ∈ ch,(b ∈ X.ex ∨ X.s₀.heap.objs.size ≤ b) ∧ b ≠ X.env.locals ∧ (∀ x c,X.env.cells.lookup x = some c → c ≠ b) ∧ ∀ p ∈ X.pn ++ pins,p.1 ≠ b) :
   Inv X pins σ H' { s with heap := h',gens := g',drawn := d',toks := t' } := by
 obtain ⟨m,⟨o,es,ep,ho,r⟩,_⟩ := id I.loc
 obtain ⟨sl,hL⟩ := u.any ho I.free fun z => (hch _ z).2.1 rfl
 exact I.step (ch := ch) hch (fun b o hL hb hc e n => u.keep b o e n (fun z => (List.mem_cons.mp (I.stkSub b z)).elim hL hb) hc) (fun b o _ _ hc e n => u.any e n hc) (fun b o hc e n => u.free b o e n hc) (fun b o hc e => u.there b o e hc) u.tups u.frzs u.tbls (fun m' hm => by
   obtain ⟨o',es',ep',ho',r'⟩ := hm
   rw [ho] at ho'; cases ho'
   exact ⟨_,es',ep',hL,r'⟩) hok hg
theorem Inv.turned {t' : Nat} {it : Addr} (I : Inv X pins σ H s) (k : ∀ b o,b ≠ it → s.heap.get? b = some o → h'.get? b = some o) (hn : H it = none) (hL : it ≠ X.env.locals)
   (h1 : it ∈ X.ex ∨ X.s₀.heap.objs.size ≤ it) (h2 : ∀ x c,X.env.cells.lookup x = some c → c ≠ it) (h3 : ∀ p ∈ X.pn ++ pins,p.1 ≠ it) : Inv X pins σ H { s with heap := h',toks := t' } := by
 have nit : ∀ b u,H b = some u → b ≠ it := fun b u e z => by rw [z,hn] at e; cases e
 refine I.step (g' := s.gens) (d' := s.drawn) (ch := [it]) (fun b hb => ?_) (fun b o _ _ hc e _ => k b o (fun z => hc (by simp [z])) e) (fun b o _ _ hc e _ => ⟨o.slots,k b o (fun z => hc (by simp [z])) e⟩) (fun _ _ _ _ n => n)
   (fun b o hc e => ⟨o,k b o (fun z => hc (by simp [z])) e⟩) (fun _ _ e => e) (fun _ _ _ e => e) (fun b ps e => ⟨#[],by rw [e]; simp⟩) (fun m hm => ?_) (fun b u e => ?_) I.bare
 · have e : b = it := by simpa using hb
   subst e
   exact ⟨h1,hL,h2,h3⟩
 · obtain ⟨o,es,ep,ho,r⟩ := hm
   exact ⟨o,es,ep,k _ o (Ne.symm hL) ho,r⟩
 · refine (I.hok b u e).stay (fun c v hc q => k c v ?_ q) (fun _ q => q) fun _ _ q => q
   rcases hc with z | z
   · rw [z]; exact nit b u e
   · exact nit c _ z
theorem Inv.tok (I : Inv X pins σ H s) (t : Nat) : Inv X pins σ H { s with toks := t } := I.un (h' := s.heap) (t' := t) Un.refl I.hok
theorem Inv.kept {t' : Nat} (I : Inv X pins σ H s) (k : ∀ b u,s.heap.get? b = some u → h'.get? b = some u) : Inv X pins σ H { s with heap := h',toks := t' } := I.un (Un.kept k) (I.hok.kept k)
theorem Inv.laid {a : Addr} {o : HO} {t' : Nat} (I : Inv X pins σ H s) (k : ∀ b u,s.heap.get? b = some u → h'.get? b = some u) (hp : s.heap.objs.size ≤ a) (new : ObjOk X.prog X.w (upd H a o) h' a o) :
   Inv X pins σ (upd H a o) { s with heap := h',toks := t' } := I.un (Un.laid k hp (I.hok.fresh hp)) (I.hok.laid k hp new)
theorem Inv.write {x e : Addr} {o : HO} {t' : Nat} (I : Inv X pins σ H s) (mu : Mut (H x)) (he : e = x ∨ H e = some (.own x)) (k : ∀ b u,b ≠ e → s.heap.get? b = some u → h'.get? b = some u) (heo : ∃ u,h'.get? e = some u)
   (new : ObjOk X.prog X.w (upd H x o) h' x o) : Inv X pins σ (upd H x o) { s with heap := h',toks := t' } := I.un (Un.write mu he k heo) (I.hok.write mu he k heo new)
theorem Inv.pins_of {pins' : List (Addr × Obj)} (I : Inv X pins σ H s) (h : ∀ p ∈ pins',s.heap.get? p.1 = some p.2 ∧ H p.1 = none ∧ p.1 ≠ X.env.locals ∧ p.1 ∉ X.fs ∧ ∀ v,p.2.data ≠ .cell v) : Inv X pins' σ H s :=
 ⟨I.ok,I.os,I.bare,I.base,I.loc,I.cell,I.free,I.freeC,fun p hp => (List.mem_append.mp hp).elim (fun z => I.pin p (List.mem_append_left _ z)) (h p),I.hok,I.len⟩

theorem nodup_ix {N : List Str} (hN : N.Nodup) {i j : Nat} {x : Str} (a : N[i]? = some x) (b : N[j]? = some x) : i = j := by
 obtain ⟨h1,e1⟩ := List.getElem?_eq_some_iff.mp a
 obtain ⟨h2,e2⟩ := List.getElem?_eq_some_iff.mp b
 exact (List.getElem_inj hN).mp (e1.trans e2.symm)

theorem store_ok2 {M : Model} {A : Around} {E : Value → Shared → Prop} {i : Nat} {x : Str} {v : V} {u : Value} {Q : Unit → Shared → Prop} (I : Inv X pins σ H s) (hN : X.N.Nodup) (hi : X.N[i]? = some x) (hx : Loc X.env.scope x) (r : RelV v u)
   (h : ∀ s',Inv X pins (σ.set i (some v)) H s' → (∃ a,Heap.SameBut a s.heap s'.heap ∧ (a = X.env.locals ∨ X.env.cells.lookup x = some a)) → Q () s') (hf : X.fn x = true ∨ X.env.scope.names.lookup x = some .local := by first | exact .inl rfl | exact .inr rfl | assumption) : wpAny M A (storeName X.env x u) Q E s := by
 obtain ⟨m,hn,hl⟩ := id I.loc
 have hcls : (X.env.scope.kind == .class || (X.env.scope.kind == .module && X.env.locals != X.env.globals)) = false := by rw [I.ok.kind]; rfl
 have hiσ : i < σ.length := by rw [I.len]; exact (List.getElem?_eq_some_iff.mp hi).1
 have cne := I.cne
 have tracked : ∀ {a : Addr} {h' : Heap},(∃ o,s.heap.get? a = some o ∧ H a = none) → Heap.SameBut a s.heap h' → HOk X.prog X.w H h' := fun {a h'} ha hs b ob e => by
   obtain ⟨_,_,hfree⟩ := ha
   refine (I.hok b ob e).stay (fun c w' hc q => (hs.2 c ?_).trans q) (fun _ q => q) fun _ _ q => q
   rintro rfl
   rcases hc with rfl | hc
   · rw [hfree] at e; cases e
   · rw [hfree] at hc; cases hc
 rcases hx with hk | hk
 · refine wpAny_storeName_local hk hn (fun h' hn' hs => ?_) hcls
   obtain ⟨oL,_,_,hoL,_⟩ := id hn
   refine h _ ⟨I.ok,I.os,I.bare,⟨fun b o e n hb hx => ?_,fun b o e n hb hx => ?_,I.base.free,fun b o e hx => ?_,I.base.tups,I.base.frzs,I.base.tbls⟩,⟨_,hn',fun j y v' e1 e2 e3 => ?_⟩,fun y c e => ?_,I.free,I.freeC,fun p hp => ?_,tracked ⟨oL,hoL,I.free⟩ hs,by simpa using I.len⟩ ⟨_,hs,.inl rfl⟩
   · exact (hs.2 b (Nat.ne_of_lt (Nat.lt_of_lt_of_le (Heap.lt_size e) I.ok.above))).trans (I.base.keep b o e n hb hx)
   · obtain ⟨sl,e1⟩ := I.base.slot b o e n hb hx
     exact ⟨sl,(hs.2 b (Nat.ne_of_lt (Nat.lt_of_lt_of_le (Heap.lt_size e) I.ok.above))).trans e1⟩
   · obtain ⟨o',e1⟩ := I.base.there b o e hx
     exact ⟨o',(hs.2 b (Nat.ne_of_lt (Nat.lt_of_lt_of_le (Heap.lt_size e) I.ok.above))).trans e1⟩
   · by_cases hj : j = i
     · subst hj
       rw [hi] at e1; cases e1
       rw [List.getElem?_set_self hiσ] at e2
       cases e2
       exact ⟨u,r,.inl ⟨hk,by simp⟩⟩
     · rw [List.getElem?_set_ne (Ne.symm hj)] at e2
       obtain ⟨u',r',q⟩ := hl j y v' e1 e2 e3
       refine ⟨u',r',?_⟩
       rcases q with ⟨k,e⟩ | ⟨k,c,e,z⟩
       · refine .inl ⟨k,?_⟩
         have : y ≠ x := fun e => hj (nodup_ix hN e1 (e ▸ hi))
         simp [this,e]
       · exact .inr ⟨k,c,e,z.sameBut hs (cne y c e)⟩
   · obtain ⟨w',z⟩ := I.cell y c e
     exact ⟨w',z.sameBut hs (cne y c e)⟩
   · obtain ⟨e,n,ne,nf,d⟩ := I.pin p hp
     exact ⟨(hs.2 p.1 ne).trans e,n,ne,nf,d⟩
 · have hfn : X.fn x = true := by
     rcases hf with z | z
     · exact z
     · rw [z] at hk; cases hk
   obtain ⟨c,hc⟩ := I.ok.has x (.inl hk)
   obtain ⟨w',z⟩ := I.cell x c hc
   refine wpAny_storeName_cell I.ok.kind hk hc z (fun h' hc' hs => ?_)
   obtain ⟨oc,hoc,hocd⟩ := id z
   refine h { s with heap := h' } ⟨I.ok,I.os,I.bare,⟨fun b o e n hb hx => ?_,fun b o e n hb hx => ?_,I.base.free,fun b o e hx => ?_,I.base.tups,I.base.frzs,I.base.tbls⟩,⟨m,hn.sameBut hs (Ne.symm (cne x c hc)),fun j y v' e1 e2 e3 => ?_⟩,fun y c' e => ?_,I.free,I.freeC,fun p hp => ?_,tracked ⟨oc,hoc,I.freeC x c hc⟩ hs,by simpa using I.len⟩ ⟨c,hs,.inr hc⟩
   · exact (hs.2 b (Nat.ne_of_lt (Nat.lt_of_lt_of_le (Heap.lt_size e) (I.ok.cab x c hfn hc)))).trans (I.base.keep b o e n hb hx)
   · obtain ⟨sl,e1⟩ := I.base.slot b o e n hb hx
     exact ⟨sl,(hs.2 b (Nat.ne_of_lt (Nat.lt_of_lt_of_le (Heap.lt_size e) (I.ok.cab x c hfn hc)))).trans e1⟩
   · obtain ⟨o',e1⟩ := I.base.there b o e hx
     exact ⟨o',(hs.2 b (Nat.ne_of_lt (Nat.lt_of_lt_of_le (Heap.lt_size e) (I.ok.cab x c hfn hc)))).trans e1⟩
   · by_cases hj : j = i
     · subst hj
       rw [hi] at e1; cases e1
       rw [List.getElem?_set_self hiσ] at e2
       cases e2
       exact ⟨u,r,.inr ⟨.inl hk,c,hc,hc'⟩⟩
     · rw [List.getElem?_set_ne (Ne.symm hj)] at e2
       obtain ⟨u',r',q⟩ := hl j y v' e1 e2 e3
       refine ⟨u',r',?_⟩
       rcases q with q | ⟨k,c',e,z'⟩
       · exact .inl q
       · refine .inr ⟨k,c',e,z'.sameBut hs ?_⟩
         rintro rfl
         exact hj (nodup_ix hN e1 (I.ok.inj _ _ _ e hc ▸ hi))
   · by_cases hcc : c' = c
     · subst hcc; exact ⟨_,hc'⟩
     · obtain ⟨w2,z2⟩ := I.cell y c' e
       exact ⟨w2,z2.sameBut hs hcc⟩
   · obtain ⟨e,n,ne,nf,d⟩ := I.pin p hp
     refine ⟨(hs.2 p.1 ?_).trans e,n,ne,nf,d⟩
     intro q
     rw [q,hoc] at e
     have q' : oc = p.2 := Option.some.inj e
     exact d w' (by rw [← q']; exact hocd)
theorem store_ok {M : Model} {A : Around} {E : Value → Shared → Prop} {i : Nat} {x : Str} {v : V} {u : Value} {Q : Unit → Shared → Prop} (I : Inv X pins σ H s) (hN : X.N.Nodup) (hi : X.N[i]? = some x) (hx : Loc X.env.scope x) (r : RelV v u)
   (h : ∀ s',Inv X pins (σ.set i (some v)) H s' → Q () s') (hf : X.fn x = true ∨ X.env.scope.names.lookup x = some .local := by first | exact .inl rfl | exact .inr rfl | assumption) : wpAny M A (storeName X.env x u) Q E s :=
 store_ok2 I hN hi hx r (fun s' I' _ => h s' I') hf
theorem Inv.call' {s' : Shared} {ch : List Addr} (I : Inv X pins σ H s) (ho : s'.os = s.os) (u : Un (frs X.stack) ch H H' s.heap s'.heap) (hok : HOk X.prog X.w H' s'.heap) (hg : AllBare s'.gens)
   (hch : ∀ b ∈ ch,(b ∈ X.ex ∨ X.s₀.heap.objs.size ≤ b) ∧ b ≠ X.env.locals ∧ (∀ x c,X.env.cells.lookup x = some c → c ≠ b) ∧ ∀ p ∈ X.pn ++ pins,p.1 ≠ b) : Inv X pins σ H' s' := by
 obtain ⟨h',g',d',t',o'⟩ := s'
 have e : o' = s.os := ho
 subst e
 exact I.call (g' := g') (t' := t') (d' := d') u hok hg hch
end

abbrev XK := Value → Option Addr → Hp → Prop
abbrev St := List (Option V)
abbrev VK := V → Hp → Prop
abbrev TE := St → Hp → VK → Prop
abbrev TT := St → Hp → (Bool → Hp → Prop) → Prop
abbrev TA := St → Hp → (List V → Hp → Prop) → Prop
structure Ends where
 nx : St → Hp → Prop
 rt : VK
 bk : St → Hp → Prop := fun _ _ => False
 ct : St → Hp → Prop := fun _ _ => False
abbrev TS := Ends → St → Hp → Prop

def EP (X : Cx) (pins : List (Addr × Obj)) (σ : St) (Q : VK) (u : Value) (s' : Shared) : Prop := ∃ v H',Inv X pins σ H' s' ∧ RelV v u ∧ Q v H'
def TP (X : Cx) (pins : List (Addr × Obj)) (σ : St) (Q : Bool → Hp → Prop) (b : Bool) (s' : Shared) : Prop := ∃ H',Inv X pins σ H' s' ∧ Q b H'
def AP (X : Cx) (pins : List (Addr × Obj)) (σ : St) (Q : List V → Hp → Prop) (us : List Value) (s' : Shared) : Prop := ∃ vs H',Inv X pins σ H' s' ∧ Vals vs us ∧ Q vs H'
def SP (X : Cx) (pins : List (Addr × Obj)) (D : Ends) (f : Flow) (s' : Shared) : Prop :=
 match f with
 | .next => ∃ σ' H',Inv X pins σ' H' s' ∧ D.nx σ' H'
 | .brk => ∃ σ' H',Inv X pins σ' H' s' ∧ D.bk σ' H'
 | .cont => ∃ σ' H',Inv X pins σ' H' s' ∧ D.ct σ' H'
 | .ret u => ∃ v σ' H',Inv X pins σ' H' s' ∧ RelV v u ∧ D.rt v H'

def PE (X : Cx) (e : Expr) (t : TE) : Prop :=
 ∀ (pins : List (Addr × Obj)) (s : Shared) (σ : St) (H : Hp) (Q : VK),Inv X pins σ H s → t σ H Q → wpAny (model X.prog X.w) X.A (eval e X.env) (EP X pins σ Q) X.xe s
def PT (X : Cx) (e : Expr) (t : TT) : Prop :=
 ∀ (pins : List (Addr × Obj)) (s : Shared) (σ : St) (H : Hp) (Q : Bool → Hp → Prop),Inv X pins σ H s → t σ H Q → wpAny (model X.prog X.w) X.A (isTrue e X.env (eval e X.env)) (TP X pins σ Q) X.xe s
def PW (X : Cx) (e : Expr) (t : TT) : Prop :=
 ∀ (whole : Sem Value) (pins : List (Addr × Obj)) (s : Shared) (σ : St) (H : Hp) (Q : Bool → Hp → Prop),Inv X pins σ H s → t σ H Q → wpAny (model X.prog X.w) X.A (isTrue e X.env whole) (TP X pins σ Q) X.xe s
theorem PW.pt {X : Cx} {e : Expr} {t : TT} (h : PW X e t) : PT X e t := h _
def PA (X : Cx) (es : List Expr) (t : TA) : Prop :=
 ∀ (pos : Pos) (pins : List (Addr × Obj)) (s : Shared) (σ : St) (H : Hp) (Q : List V → Hp → Prop),Inv X pins σ H s → t σ H Q → wpAny (model X.prog X.w) X.A (spliced (backTo pos (starEach es X.env))) (AP X pins σ Q) X.xe s
def PS (X : Cx) (st : Stmt) (t : TS) : Prop :=
 ∀ (pins : List (Addr × Obj)) (s : Shared) (σ : St) (H : Hp) (D : Ends),Inv X pins σ H s → t D σ H → wpAny (model X.prog X.w) X.A (exec st X.env) (SP X pins D) X.xe s
def PSs (X : Cx) (st : List Stmt) (t : TS) : Prop :=
 ∀ (pins : List (Addr × Obj)) (s : Shared) (σ : St) (H : Hp) (D : Ends),Inv X pins σ H s → t D σ H → wpAny (model X.prog X.w) X.A (execs st X.env) (SP X pins D) X.xe s
theorem thn {α : Type} {t : Sem α} {Q Q' : α → Shared → Prop} {M : Model} {A : Around} {E : Value → Shared → Prop} {s : Shared} (h : wpAny M A t Q E s) (hQ : ∀ a s,Q a s → Q' a s) : wpAny M A t Q' E s := wpAny_mono h hQ fun _ _ x => x
end L2

namespace L2
open PySem PySem.Spec PyProof.Rows
section
variable {X : Cx}

def tVar (i : Nat) : TE := fun σ H Q => ∃ v,σ[i]? = some (some v) ∧ Q v H
def tC (v : V) : TE := fun _ H Q => Q v H
theorem pe_var {i : Nat} {x : Str} {pos : Pos} (hN : X.N[i]? = some x) (hv : Vis X.env.scope x) (hd : (x == ("__debug__" : Str)) = false := by decide) (hcd : (x == ("__classdict__" : Str)) = false := by decide) : PE X (.Name x pos) (tVar i) := by
 intro pins s σ H Q I h
 obtain ⟨v,e,h⟩ := h
 obtain ⟨m,hn,hl⟩ := I.loc
 obtain ⟨u,r,l⟩ := hl i x v hN e hv
 have fin : EP X pins σ Q u s := ⟨v,H,I,r,h⟩
 rcases l with ⟨hk,hm⟩ | ⟨hk,c,hc,hcell⟩
 · exact wpAny_Name (wpAny_loadName_local I.ok.kind hk hn hm fin) hd
 · rcases hk with hk | hk
   · exact wpAny_Name (wpAny_loadName_cell I.ok.kind hk hc hcell fin) hd
   · exact wpAny_Name (wpAny_loadName_free I.ok.kind hk hc hcell fin hcd) hd
theorem pe_int {i j pos} : PE X (.Constant (.int i) j pos) (tC (.int i)) := fun _ _ _ H _ I h => wpAny_Constant_int ⟨.int i,H,I.tok _,⟨_,rfl⟩,h⟩
theorem pe_bl {b j pos} : PE X (.Constant (.bool b) j pos) (tC (.bl b)) := fun _ _ _ H _ I h => Constant_bool ⟨.bl b,H,I,rfl,h⟩
theorem pe_non {j pos} : PE X (.Constant .none j pos) (tC .non) := fun _ _ _ H _ I h => Constant_none ⟨.non,H,I,rfl,h⟩
theorem pe_str {x j pos} : PE X (.Constant (.str x) j pos) (tC (.str x)) := fun _ _ _ H _ I h => Calls.Constant_str ⟨.str x,H,I.tok _,⟨_,rfl⟩,h⟩

def Gl (X : Cx) (x : Str) : Prop := X.env.kindOf x = some .globalImplicit
theorem ld_glob {E : Value → Shared → Prop} {pins : List (Addr × Obj)} {s : Shared} {σ : St} {H : Hp} {x : Str} {u : Value} {pos : Pos} {Q : Value → Shared → Prop} (I : Inv X pins σ H s) (hg : Gl X x) (hm : X.mg x = some u) (h : Q u s)
   (hd : (x == ("__debug__" : Str)) = false := by decide) : wpAny (model X.prog X.w) X.A (eval (.Name x pos) X.env) Q E s :=
 Calls.Name_function_global I.ok.kind hg (Calls.loadGlobal_global (by rw [I.ok.glob]; exact I.mod.glob.keeps I.bk) hm h) hd
theorem ld_blt {E : Value → Shared → Prop} {pins : List (Addr × Obj)} {s : Shared} {σ : St} {H : Hp} {x : Str} {u : Value} {pos : Pos} {Q : Value → Shared → Prop} (I : Inv X pins σ H s) (hg : Gl X x) (hm : X.mg x = none) (hv : bootBuiltins x = some u) (h : Q u s)
   (hn : x ≠ "__name__" := by decide) (hd : (x == ("__debug__" : Str)) = false := by decide) : wpAny (model X.prog X.w) X.A (eval (.Name x pos) X.env) Q E s := by
 obtain ⟨mb,h1,h2⟩ := I.mod.blt
 exact Calls.Name_function_global I.ok.kind hg (Calls.loadGlobal_builtin (by rw [I.ok.glob]; exact I.mod.glob.keeps I.bk) hm (by rw [I.ok.blt]; exact h1.keeps I.bk) ((h2 x hn).trans hv) h) hd
theorem pe_glob {x : Str} {v : V} {u : Value} {pos : Pos} (hg : Gl X x) (hm : X.mg x = some u) (r : RelV v u) (hd : (x == ("__debug__" : Str)) = false := by decide) : PE X (.Name x pos) (tC v) :=
 fun _ _ _ H _ I h => ld_glob I hg hm ⟨v,H,I,r,h⟩ hd
theorem pe_bltn {x : Str} {v : V} {u : Value} {pos : Pos} (hg : Gl X x) (hm : X.mg x = none) (hv : bootBuiltins x = some u) (r : RelV v u) (hn : x ≠ "__name__" := by decide) (hd : (x == ("__debug__" : Str)) = false := by decide) : PE X (.Name x pos) (tC v) :=
 fun _ _ _ H _ I h => ld_blt I hg hm hv ⟨v,H,I,r,h⟩ hn hd

variable {a b : Expr} {ta tb : TE} {pos : Pos}
def tB (t : TE) : TT := fun σ H Q => t σ H fun x H1 => ∃ c,x = .bl c ∧ Q c H1
theorem pt_val {e : Expr} {t : TE} (h : PE X e t) (he : ∀ whole,isTrue e X.env whole = (do let v ← whole; standAt e.pos; holding [v] (truthy v)) := by intro _; rfl) : PT X e (tB t) := by
 intro pins s σ H Q I hw
 refine isTrue_plain (thn (h pins s σ H _ I hw) fun v s1 ⟨x,H1,I1,r1,q1⟩ => ?_) (he _)
 obtain ⟨d,rfl,q⟩ := q1
 cases r1
 exact wpAny_truthy_bool ⟨H1,I1,q⟩

variable {tA tB' : TT} {rest : List Expr}
def tAnd (t u : TT) : TT := fun σ H Q => t σ H fun c H1 => if c = true then u σ H1 Q else Q false H1
def tOr (t u : TT) : TT := fun σ H Q => t σ H fun c H1 => if c = true then Q true H1 else u σ H1 Q
def tNot (t : TT) : TT := fun σ H Q => t σ H fun c H1 => Q (!c) H1
theorem pw_and1 (ha : PT X a tA) : PW X (.BoolOp .And [a] pos) tA := by
 intro wh pins s σ H Q I h
 refine isTrue_and (thn (ha pins s σ H Q I h) fun c s1 e => ?_)
 cases c with
 | true => exact isTrue_and_nil e
 | false => exact e
theorem pw_or1 (ha : PT X a tA) : PW X (.BoolOp .Or [a] pos) tA := by
 intro wh pins s σ H Q I h
 refine isTrue_or (thn (ha pins s σ H Q I h) fun c s1 e => ?_)
 cases c with
 | false => exact isTrue_or_nil e
 | true => exact e
theorem pw_and (ha : PT X a tA) (hb : PW X (.BoolOp .And (b :: rest) pos) tB') : PW X (.BoolOp .And (a :: b :: rest) pos) (tAnd tA tB') := by
 intro wh pins s σ H Q I h
 refine isTrue_and (thn (ha pins s σ H _ I h) fun c s1 ⟨H1,I1,q1⟩ => ?_)
 cases c with
 | true => exact hb wh pins s1 σ H1 Q I1 q1
 | false => exact ⟨H1,I1,q1⟩
theorem pw_or (ha : PT X a tA) (hb : PW X (.BoolOp .Or (b :: rest) pos) tB') : PW X (.BoolOp .Or (a :: b :: rest) pos) (tOr tA tB') := by
 intro wh pins s σ H Q I h
 refine isTrue_or (thn (ha pins s σ H _ I h) fun c s1 ⟨H1,I1,q1⟩ => ?_)
 cases c with
 | true => exact ⟨H1,I1,q1⟩
 | false => exact hb wh pins s1 σ H1 Q I1 q1
theorem pt_not (ha : PT X a tA) : PT X (.UnaryOp .Not a pos) (tNot tA) := by
 intro pins s σ H Q I h
 exact isTrue_not (ha pins s σ H (fun c H1 => Q (!c) H1) I h)
def tAndV (ta tb : TE) : TE := fun σ H Q => ta σ H fun x H1 => ∃ c,x = .bl c ∧ if c = true then tb σ H1 Q else Q (.bl false) H1
def tNotV (ta : TE) : TE := fun σ H Q => ta σ H fun x H1 => ∃ c,x = .bl c ∧ Q (.bl (!c)) H1
theorem pe_one {op} {t : TE} (h : PE X a t) : PE X (.BoolOp op [a] pos) t := fun pins s σ H Q I hw => BoolOp_one (h pins s σ H Q I hw)
theorem pe_and (ha : PE X a ta) (hb : PE X (.BoolOp .And (b :: rest) pos) tb) : PE X (.BoolOp .And (a :: b :: rest) pos) (tAndV ta tb) := by
 intro pins s σ H Q I h
 refine BoolOp_and (thn (ha pins s σ H _ I h) fun v s1 ⟨x,H1,I1,r1,q1⟩ => ?_)
 obtain ⟨c,rfl,q1⟩ := q1
 cases r1
 refine wpAny_truthy_bool ?_
 cases c with
 | true => exact hb pins s1 σ H1 Q I1 q1
 | false => exact ⟨.bl false,H1,I1,rfl,q1⟩
theorem pe_not (ha : PE X a ta) : PE X (.UnaryOp .Not a pos) (tNotV ta) := by
 intro pins s σ H Q I h
 refine UnaryOp_ (thn (ha pins s σ H _ I h) fun v s1 ⟨x,H1,I1,r1,q1⟩ => ?_)
 obtain ⟨c,rfl,q1⟩ := q1
 cases r1
 exact not_of (wpAny_truthy_bool ⟨.bl (!c),H1,I1,rfl,q1⟩)
end
end L2

namespace L2
open PySem PySem.Spec PyProof.Rows

def SqL (K : PySem.W.Frag) (H : Hp) (a : Addr) (xs : List V) : Prop :=
 Rd H a (.lst xs) ∨
   ∃ (o : Obj) (its : Array Value) (n : Nat),K.lookup a = some o ∧ o.cls = .type "list" ∧ o.dict = none ∧ o.data = .seq its n ∧ its.size ≤ sizeLine ∧ Vals xs its.toList
def SqT (K : PySem.W.Frag) (H : Hp) (a : Addr) (xs : List V) : Prop :=
 Rd H a (.tup xs) ∨
   ∃ (o : Obj) (its : Array Value) (n : Nat),K.lookup a = some o ∧ o.cls = .type "tuple" ∧ o.data = .seq its n ∧ its.size ≤ sizeLine ∧ Vals xs its.toList
def absV : Value → Option V
 | .none => some .non
 | .bool b => some (.bl b)
 | .int i _ => some (.int i)
 | .str x _ => some (.str x)
 | .bytes b _ => some (.byt b)
 | .float b _ => some (.flt b)
 | .ref a => some (.ref a)
 | .type n => some (.ty n)
 | _ => none
theorem RelV.abs {x : V} {u : Value} (r : RelV x u) : absV u = some x := by
 cases x with
 | non => cases r; rfl
 | bl _ => cases r; rfl
 | int _ => obtain ⟨t,rfl⟩ := r; rfl
 | str _ => obtain ⟨t,rfl⟩ := r; rfl
 | byt _ => obtain ⟨t,rfl⟩ := r; rfl
 | flt _ => obtain ⟨t,rfl⟩ := r; rfl
 | ref _ => cases r; rfl
 | ty _ => cases r; rfl
theorem RelV.inj {x y : V} {u : Value} (r : RelV x u) (q : RelV y u) : x = y := Option.some.inj (r.abs.symm.trans q.abs)
theorem Vals.inj : ∀ {xs ys : List V} {us : List Value},Vals xs us → Vals ys us → xs = ys
 | _,_,_,.nil,.nil => rfl
 | _,_,_,.cons r t,.cons r' t' => by rw [r.inj r',Vals.inj t t']
section
variable {X : Cx} {pins : List (Addr × Obj)} {σ : St} {H : Hp} {s : Shared} {a : Addr} {xs ys : List V}
theorem SqL.of {K : PySem.W.Frag} (h : H a = some (.lst xs)) : SqL K H a xs := .inl (.inl h)
theorem Inv.list (I : Inv X pins σ H s) (h : SqL X.K H a xs) : ∃ its : List Value,Vals xs its ∧ PlainL s.heap a its.toArray ∧ xs.length ≤ sizeLine := by
 rcases h with h | ⟨o,its,n,hk,hc,hd,hs,hz,r⟩
 · obtain ⟨z,its,n,r,e⟩ := h.ok I.hok
   exact ⟨its,r,⟨_,n,e,rfl,rfl,rfl⟩,z⟩
 · refine ⟨its.toList,r,⟨o,n,I.kIn a o hk,hc,hd,by simpa using hs⟩,?_⟩
   have e := r.length
   simp only [Array.length_toList] at e
   omega
theorem Inv.tuple (I : Inv X pins σ H s) (h : SqT X.K H a xs) : ∃ its : List Value,Vals xs its ∧ IsTup s.heap a its.toArray ∧ xs.length ≤ sizeLine := by
 rcases h with h | ⟨o,its,n,hk,hc,hs,hz,r⟩
 · obtain ⟨z,its,r,p⟩ := h.ok I.hok
   exact ⟨its,r,p,z⟩
 · refine ⟨its.toList,r,⟨o,I.kIn a o hk,hc,n,by simpa using hs⟩,?_⟩
   have e := r.length
   simp only [Array.length_toList] at e
   omega
theorem Inv.list_inj (I : Inv X pins σ H s) (h : SqL X.K H a xs) (h' : SqL X.K H a ys) : xs = ys := by
 obtain ⟨its,r,⟨o,n,e,_,_,d⟩,_⟩ := I.list h
 obtain ⟨its',r',⟨o',n',e',_,_,d'⟩,_⟩ := I.list h'
 rw [e] at e'; cases e'
 rw [d] at d'
 injection d' with d1 _
 have : its = its' := by simpa using congrArg Array.toList d1
 subst this
 exact r.inj r'
theorem Inv.tuple_inj (I : Inv X pins σ H s) (h : SqT X.K H a xs) (h' : SqT X.K H a ys) : xs = ys := by
 obtain ⟨its,r,⟨o,e,_,n,d⟩,_⟩ := I.tuple h
 obtain ⟨its',r',⟨o',e',_,n',d'⟩,_⟩ := I.tuple h'
 rw [e] at e'; cases e'
 rw [d] at d'
 injection d' with d1 _
 have : its = its' := by simpa using congrArg Array.toList d1
 subst this
 exact r.inj r'
end

abbrev Cx.wish (X : Cx) (E : Value → Shared → Prop) : Cx := { X with xe := E }
abbrev Cx.nox (X : Cx) : Cx := X.wish fun _ _ => False
theorem Cx.Ok.wish {X : Cx} (ok : X.Ok) (E : Value → Shared → Prop) : (X.wish E).Ok :=
 ⟨ok.mod,ok.kind,ok.glob,ok.blt,ok.above,ok.inj,ok.has,ok.cab,ok.hd,ok.frames,ok.stk,ok.exf,ok.bs,ok.bsz,ok.noex,ok.exfs,ok.funs,ok.frf⟩
theorem Cx.Ok.unwish {X : Cx} {E : Value → Shared → Prop} (ok : (X.wish E).Ok) : X.Ok :=
 ⟨ok.mod,ok.kind,ok.glob,ok.blt,ok.above,ok.inj,ok.has,ok.cab,ok.hd,ok.frames,ok.stk,ok.exf,ok.bs,ok.bsz,ok.noex,ok.exfs,ok.funs,ok.frf⟩
section
variable {X : Cx} {pins : List (Addr × Obj)} {σ : St} {H : Hp} {s : Shared} {E : Value → Shared → Prop}
theorem Inv.wish (I : Inv X pins σ H s) (E : Value → Shared → Prop) : Inv (X.wish E) pins σ H s := ⟨I.ok.wish E,I.os,I.bare,I.base,I.loc,I.cell,I.free,I.freeC,I.pin,I.hok,I.len⟩
theorem Inv.unwish (I : Inv (X.wish E) pins σ H s) : Inv X pins σ H s := ⟨I.ok.unwish,I.os,I.bare,I.base,I.loc,I.cell,I.free,I.freeC,I.pin,I.hok,I.len⟩
theorem SP.unwish {D : Ends} {f : Flow} {s' : Shared} (h : SP (X.wish E) pins D f s') : SP X pins D f s' := by
 cases f with
 | next => obtain ⟨σ',H',I,q⟩ := h; exact ⟨σ',H',I.unwish,q⟩
 | brk => obtain ⟨σ',H',I,q⟩ := h; exact ⟨σ',H',I.unwish,q⟩
 | cont => obtain ⟨σ',H',I,q⟩ := h; exact ⟨σ',H',I.unwish,q⟩
 | ret u => obtain ⟨v,σ',H',I,r,q⟩ := h; exact ⟨v,σ',H',I.unwish,r,q⟩
theorem PE.nox {e : Expr} {t : TE} (h : PE X.nox e t) : PE X e t := fun pins s σ H Q I hw =>
 wpAny_mono (h pins s σ H Q (I.wish _) hw) (fun _ _ ⟨v,H',I',r,q⟩ => ⟨v,H',I'.unwish,r,q⟩) fun _ _ z => False.elim z
theorem PSs.nox {st : List Stmt} {t : TS} (h : PSs X.nox st t) : PSs X st t := fun pins s σ H D I hw =>
 wpAny_mono (h pins s σ H D (I.wish _) hw) (fun _ _ q => q.unwish) fun _ _ z => False.elim z
end

section
variable {X : Cx} {st : Stmt} {rest : List Stmt} {t u : TS} {e : Expr} {te : TE} {pos : Pos}
def tNext : TS := fun D σ H => D.nx σ H
def tSeq (t u : TS) : TS := fun D σ H => t { D with nx := u D } σ H
theorem pss_nil : PSs X [] tNext := fun _ _ σ H _ I h => wpAny_execs_nil ⟨σ,H,I,h⟩
theorem pss_cons (h1 : PS X st t) (h2 : PSs X rest u) : PSs X (st :: rest) (tSeq t u) := by
 intro pins s σ H D I h
 refine wpAny_execs_cons (thn (h1 pins s σ H { D with nx := u D } I h) fun f s1 q => ?_)
 cases f with
 | next =>
   obtain ⟨σ',H',I',q⟩ := q
   exact h2 pins s1 σ' H' D I' q
 | ret v => exact q
 | brk => exact q
 | cont => exact q
theorem pss_one (h1 : PS X st t) : PSs X [st] t := by
 intro pins s σ H D I h
 refine wpAny_execs_cons (thn (h1 pins s σ H D I h) fun f s1 q => ?_)
 cases f with
 | next => exact wpAny_execs_nil q
 | ret v => exact q
 | brk => exact q
 | cont => exact q
theorem Inv.quiet {pins : List (Addr × Obj)} {σ : St} {H : Hp} {s : Shared} (I : Inv X pins σ H s) : interactive X.env = false := by simp [interactive,I.ok.kind]
def tDrop (te : TE) : TS := fun D σ H => te σ H fun _ H1 => D.nx σ H1
theorem ps_expr (he : PE X e te) (hs : swapsWith e none pos.line X.env = pure false := by rfl) : PS X (.Expr e pos) (tDrop te) := by
 intro pins s σ H D I h
 exact wpAny_Expr_any (thn (he pins s σ H _ I h) fun v s1 ⟨x,H1,I1,r1,q1⟩ => ⟨σ,H1,I1,q1⟩) I.quiet hs
def tRet (te : TE) : TS := fun D σ H => te σ H D.rt
theorem ps_ret (he : PE X e te) : PS X (.Return (some e) pos) (tRet te) := by
 intro pins s σ H D I h
 exact wpAny_Return_some (thn (he pins s σ H _ I h) fun v s1 ⟨x,H1,I1,r1,q1⟩ => ⟨x,σ,H1,I1,r1,q1⟩)
def tRetN : TS := fun D _ H => D.rt .non H
theorem ps_retN : PS X (.Return none pos) tRetN := fun _ _ σ H _ I h => wpAny_Return_none ⟨.non,σ,H,I,rfl,h⟩
def tIfS (c : TT) (t u : TS) : TS := fun D σ H => c σ H fun b H1 => if b = true then t D σ H1 else u D σ H1
theorem ps_if {c : Expr} {a b : List Stmt} {tc : TT} (hc : PT X c tc) (ha : PSs X a t) (hb : PSs X b u) : PS X (.If c a b pos) (tIfS tc t u) := by
 intro pins s σ H D I h
 refine wpAny_If (thn (hc pins s σ H _ I h) fun d s1 ⟨H1,I1,q1⟩ => ?_)
 cases d with
 | true => exact ha pins s1 σ H1 D I1 q1
 | false => exact hb pins s1 σ H1 D I1 q1
def tNever : TS := fun _ _ _ => False
theorem ps_never : PS X st tNever := fun _ _ _ _ _ _ h => h.elim
end

abbrev TG := V → St → Hp → (St → Hp → Prop) → Prop
abbrev TGs := List V → St → Hp → (St → Hp → Prop) → Prop
def PG (X : Cx) (target : Expr) (t : TG) : Prop :=
 ∀ (pins : List (Addr × Obj)) (s : Shared) (σ : St) (H : Hp) (v : V) (u : Value) (Q : St → Hp → Prop),Inv X pins σ H s → RelV v u → t v σ H Q →
   wpAny (model X.prog X.w) X.A (assign target X.env u) (fun _ s' => ∃ σ' H',Inv X pins σ' H' s' ∧ Q σ' H') X.xe s
def PGs (X : Cx) (ts : List Expr) (t : TGs) : Prop :=
 ∀ (pins : List (Addr × Obj)) (s : Shared) (σ : St) (H : Hp) (vs : List V) (us : List Value) (Q : St → Hp → Prop),Inv X pins σ H s → Vals vs us → t vs σ H Q →
   wpAny (model X.prog X.w) X.A (assignInOrder ((assignEach ts X.env).map (·.2)) us) (fun _ s' => ∃ σ' H',Inv X pins σ' H' s' ∧ Q σ' H') X.xe s
section
variable {X : Cx} {pos : Pos}
def gName (i : Nat) : TG := fun v σ H Q => Q (σ.set i (some v)) H
theorem pg_name {i : Nat} {x : Str} (hN : X.N.Nodup) (hi : X.N[i]? = some x) (hx : Loc X.env.scope x) (hf : X.fn x = true ∨ X.env.scope.names.lookup x = some .local := by first | exact .inl rfl | exact .inr rfl | assumption) : PG X (.Name x pos) (gName i) := by
 intro pins s σ H v u Q I r h
 exact wpAny_assign_Name (store_ok I hN hi hx r (fun s' I' => ⟨_,H,I',h⟩) hf)
def gNil : TGs := fun vs σ H Q => vs = [] ∧ Q σ H
def gCons (t : TG) (u : TGs) : TGs := fun vs σ H Q => ∃ v r,vs = v :: r ∧ t v σ H fun σ' H' => u r σ' H' Q
theorem pgs_nil : PGs X [] gNil := by
 intro pins s σ H vs us Q I r h
 obtain ⟨e,h⟩ := h
 subst e
 cases r
 exact assignInOrder_nil ⟨σ,H,I,h⟩
theorem pgs_cons {e : Expr} {es : List Expr} {t : TG} {u : TGs} (h1 : PG X e t) (h2 : PGs X es u)
   (hs : (assignEach (e :: es) X.env).map (·.2) = assign e X.env :: (assignEach es X.env).map (·.2) := by rfl) : PGs X (e :: es) (gCons t u) := by
 intro pins s σ H vs us Q I r h
 obtain ⟨v,vr,e1,h⟩ := h
 subst e1
 cases r with
 | cons r rr =>
   rw [hs]
   refine assignInOrder_cons (thn (h1 pins s σ H _ _ _ I r h) fun _ s1 ⟨σ1,H1,I1,q1⟩ => ?_)
   exact h2 pins s1 σ1 H1 _ _ Q I1 rr q1
def gTup (K : PySem.W.Frag) (n : Nat) (t : TGs) : TG := fun v σ H Q => ∃ a xs,v = .ref a ∧ SqT K H a xs ∧ xs.length = n ∧ t xs σ H Q
theorem pg_tup {es : List Expr} {k : Nat} {t : TGs} {n : Nat} (hc : X.calm = true) (h : PGs X es t)
   (hn : (assignEach es X.env).length = n := by rfl) (hst : (assignEach es X.env).findIdx? (·.1) = none := by rfl) : PG X (.Tuple es k pos) (gTup X.K n t) := by
 intro pins s σ H v u Q I r hw
 obtain ⟨a,xs,e1,hq,hl,hw⟩ := hw
 subst e1
 cases r
 obtain ⟨its,rv,ht,hz⟩ := I.tuple hq
 refine assign_Tuple_tuple (I.ok.hd hc) ht (by simp [hn,← hl,rv.length]) hst fun h' hx => ?_
 have I1 : Inv X pins σ H { s with heap := h' } := I.kept (t' := s.toks) fun b o e => hx b o (Nat.ne_of_lt (Heap.lt_size e)) e
 exact h pins _ σ H xs _ Q I1 (by simpa using rv) hw
def tAsg (te : TE) (g : TG) : TS := fun D σ H => te σ H fun x H1 => g x σ H1 D.nx
theorem ps_set {i : Nat} {x : Str} {e : Expr} {te : TE} {pos' : Pos} (hN : X.N.Nodup) (hi : X.N[i]? = some x) (hx : Loc X.env.scope x) (he : PE X e te) (hs : swapsWith e (some (.Name x pos')) pos.line X.env = pure false := by rfl) (hf : X.fn x = true ∨ X.env.scope.names.lookup x = some .local := by first | exact .inl rfl | exact .inr rfl | assumption) :
   PS X (.Assign [.Name x pos'] e pos) (tAsg te (gName i)) := by
 intro pins s σ H D I h
 refine wpAny_Assign_Name (thn (he pins s σ H _ I h) fun v s1 ⟨y,H1,I1,r1,q1⟩ => ?_) hs
 exact store_ok I1 hN hi hx r1 (fun s2 I2 => ⟨_,H1,I2,q1⟩) hf
end

section
variable {X : Cx} {pos : Pos}
def tWhile (c : TT) (tb : TS) : TS := fun D σ H => ∃ W : Nat → St → Hp → Prop,(∃ m,W m σ H) ∧ ∀ m σ H,W m σ H →
 c σ H fun b H1 => if b = true then ∃ N : St → Hp → Prop,(∀ σ' H',N σ' H' → ∃ m',m' < m ∧ W m' σ' H') ∧ tb { D with nx := N,ct := N,bk := D.nx } σ H1 else D.nx σ H1
theorem ps_while {c : Expr} {body : List Stmt} {tc : TT} {tb : TS} (hp : PassesOwn (model X.prog X.w) X.A X.env X.xe) (hc : PT X c tc) (hb : PSs X body tb) : PS X (.While c body [] pos) (tWhile tc tb) := by
 intro pins s σ H D I h
 obtain ⟨W,⟨m0,w0⟩,turn⟩ := h
 refine wpAny_While (codeAny_whileLoop (fun n s' => ∃ σ' H',Inv X pins σ' H' s' ∧ W n σ' H') ?_ m0 ⟨σ,H,I,w0⟩)
 rintro n s1 ⟨σ1,H1,I1,w1⟩
 refine wpAny_passesOwn hp (thn (hc pins s1 σ1 H1 _ I1 (turn n σ1 H1 w1)) fun b s2 ⟨H2,I2,q2⟩ => ?_)
 cases b with
 | true =>
   obtain ⟨N,hN,q2⟩ := q2
   rw [if_pos rfl]
   refine wpAny_passesOwn hp (thn (hb pins s2 σ1 H2 _ I2 q2) fun f s3 q3 => ?_)
   cases f with
   | next =>
     obtain ⟨σ3,H3,I3,n3⟩ := q3
     obtain ⟨m',hm,w3⟩ := hN σ3 H3 n3
     exact ⟨m',hm,σ3,H3,I3,w3⟩
   | cont =>
     obtain ⟨σ3,H3,I3,n3⟩ := q3
     obtain ⟨m',hm,w3⟩ := hN σ3 H3 n3
     exact ⟨m',hm,σ3,H3,I3,w3⟩
   | brk => exact q3
   | ret v => exact q3
 | false =>
   rw [if_neg Bool.false_ne_true]
   exact wpAny_execs_nil ⟨σ1,H2,I2,q2⟩
end

structure It where
 go : Nat → Hp → Prop
 yld : Nat → Hp → V → Hp → Prop
 stop : Nat → Hp → Prop
def FpOk (X : Cx) (pins : List (Addr × Obj)) (H : Hp) (b : Addr) : Prop :=
 H b = none ∧ b ≠ X.env.locals ∧ b ∉ X.fs ∧ (b ∈ X.ex ∨ X.s₀.heap.objs.size ≤ b) ∧ (∀ x c,X.env.cells.lookup x = some c → c ≠ b) ∧ ∀ p ∈ X.pn ++ pins,p.1 ≠ b
theorem Inv.fpOk {X : Cx} {pins : List (Addr × Obj)} {σ : St} {H H' : Hp} {s : Shared} {b : Addr} (I : Inv X pins σ H s) (hb : s.heap.objs.size ≤ b) (hn : H' b = none) : FpOk X pins H' b := by
 refine ⟨hn,Nat.ne_of_gt (Nat.lt_of_lt_of_le I.lt hb),I.nofs hb,.inr (Nat.le_trans I.sz hb),fun x c e z => ?_,fun p hp z => ?_⟩
 · obtain ⟨v,q⟩ := I.cell x c e
   exact absurd (Nat.lt_of_lt_of_le q.lt (by rw [z]; exact hb)) (Nat.lt_irrefl _)
 · exact absurd (Nat.lt_of_lt_of_le (Heap.lt_size (I.pin p hp).1) (by rw [z]; exact hb)) (Nat.lt_irrefl _)
structure Turn (P : Program) (w : World) (K : PySem.W.Frag) (tg : Expr) (J : It) (fp : List Addr) (it : Addr) (tn : Nat → Heap → Prop) : Prop where
 mem : it ∈ fp
 obj : ∀ i h,tn i h → ∀ b ∈ fp,∃ o,h.get? b = some o ∧ ∀ v,o.data ≠ .cell v
 keep : ∀ i h h',tn i h → (∀ b ∈ fp,∀ o,h.get? b = some o → h'.get? b = some o) → tn i h'
 item : ∀ (X : Cx),X.prog = P → X.w = w → X.K = K → X.calm = true → ∀ (i : Nat) (pins : List (Addr × Obj)) (s : Shared) (σ : St) (H : Hp) (E : Value → Shared → Prop),Inv X pins σ H s → (∀ b ∈ fp,FpOk X pins H b) → tn i s.heap → J.go i H →
   wpAny (model P w) X.A (pyNext (.ref it)) (fun r s1 => ∃ u,r = some u ∧
     wpAny (model P w) X.A (letOwnedTupleGo tg (.ref it) u) (fun _ s2 => ∃ x H',Inv X pins σ H' s2 ∧ RelV x u ∧ J.yld i H x H' ∧ tn (i + 1) s2.heap ∧ ∀ b ∈ fp,H' b = none) E s1) E s
 done : ∀ (X : Cx),X.prog = P → X.w = w → X.K = K → X.calm = true → ∀ (i : Nat) (pins : List (Addr × Obj)) (s : Shared) (σ : St) (H : Hp) (E : Value → Shared → Prop),Inv X pins σ H s → (∀ b ∈ fp,FpOk X pins H b) → tn i s.heap → J.stop i H →
   wpAny (model P w) X.A (pyNext (.ref it)) (fun r s1 => r = none ∧ Inv X pins σ H s1) E s
 self : ∀ (A : Around) (i : Nat) (s : Shared) (Q : Value → Shared → Prop) (E : Value → Shared → Prop),tn i s.heap → Q (.ref it) s → wpAny (model P w) A (pyIter (.ref it)) Q E s
abbrev TI := St → Hp → (It → Hp → Prop) → Prop
def PIE (X : Cx) (pins : List (Addr × Obj)) (σ : St) (tg : Expr) (R : It → Hp → Prop) (itv : Value) (s2 : Shared) : Prop :=
 ∃ (it : Addr) (fp : List Addr) (tn : Nat → Heap → Prop) (J : It) (H' : Hp),itv = .ref it ∧ Inv X pins σ H' s2 ∧ Turn X.prog X.w X.K tg J fp it tn ∧ tn 0 s2.heap ∧ (∀ b ∈ fp,FpOk X pins H' b) ∧ R J H'
def PI (X : Cx) (tg iter : Expr) (wi : TI) : Prop :=
 ∀ (pins : List (Addr × Obj)) (s : Shared) (σ : St) (H : Hp) (R : It → Hp → Prop),Inv X pins σ H s → wi σ H R →
   wpAny (model X.prog X.w) X.A (eval iter X.env) (fun v s1 => wpAny (model X.prog X.w) X.A (pyIter v) (PIE X pins σ tg R) X.xe s1) X.xe s

theorem go_of {M : Model} {A : Around} {E : Value → Shared → Prop} {s : Shared} {tg : Expr} {it : Addr} {u : Value} {o : Obj} {n : String} {vs : Array Value} {Q : Unit → Shared → Prop} (ho : s.heap.get? it = some o) (hc : o.cls = .type n) (hd : o.data = .fields vs)
   (hn : ["enumerate", "zip", "dict_itemiterator", "dict_reverseitemiterator", "odict_iterator", "itertools.zip_longest", "itertools.pairwise"].contains n = false) (hQ : Q () s) : wpAny M A (letOwnedTupleGo tg (.ref it) u) Q E s := by
 unfold letOwnedTupleGo
 cases tg <;> first
   | exact wpAny_pure hQ
   | (cases u <;> first
       | exact wpAny_pure hQ
       | (refine wpAny_bind (wpAny_load ho ?_)
          rw [hc,hd]
          show wpAny M A (if (["enumerate", "zip", "dict_itemiterator", "dict_reverseitemiterator", "odict_iterator", "itertools.zip_longest", "itertools.pairwise"].contains n && vs[0]? == some (rawInt _)) = true then _ else _) Q E s
          rw [if_neg (by intro h; rw [hn,Bool.false_and] at h; cases h)]
          exact wpAny_pure hQ))

def Itl (K : PySem.W.Frag) (a : Addr) : It :=
 ⟨fun i H => ∃ xs x,SqL K H a xs ∧ xs[i]? = some x,fun i H x H' => H' = H ∧ ∀ xs,SqL K H a xs → xs[i]? = some x,fun i H => ∃ xs,SqL K H a xs ∧ xs.length ≤ i⟩
def Itr (lo : Int) (n : Nat) : It := ⟨fun i _ => i < n,fun i H x H' => H' = H ∧ x = .int (lo + i),fun i _ => n ≤ i⟩
theorem turn_list {P : Program} {w : World} {K : PySem.W.Frag} {tg : Expr} (a it : Addr) : Turn P w K tg (Itl K a) [it] it (fun i h => h.IsListIter it a i) where
 mem := by simp
 obj := fun i h st b hb => by
   have e : b = it := by simpa using hb
   subst e
   obtain ⟨o,e,c,d⟩ := st
   exact ⟨o,e,fun v z => by rw [d] at z; cases z⟩
 keep := fun i h h' st k => st.at fun o e => k it (by simp) o e
 item := by
   intro X hP hw hK hc i pins s σ H E I hf st hg
   subst hP hw hK
   obtain ⟨xs,x,hq,hx⟩ := hg
   obtain ⟨its,rv,p,hz⟩ := I.list hq
   obtain ⟨u,hu,ru⟩ := rv.get hx
   obtain ⟨f0,f1,f2,f3,f4,f5⟩ := hf it (by simp)
   refine wpAny_pyNext_list_item st p.isList (x := u) (by simpa using hu) fun h' st' sb => ?_
   have I1 : Inv X pins σ H { s with heap := h' } := I.turned (t' := s.toks) (fun b o hb e => (sb.2 b hb).trans e) f0 f1 f3 f4 f5
   obtain ⟨o,e,c,d⟩ := id st'
   exact ⟨u,rfl,go_of (s := { s with heap := h' }) e c d (by decide) ⟨x,H,I1,ru,⟨rfl,fun ys hy => by rw [I.list_inj hy hq]; exact hx⟩,st',fun b hb => (hf b hb).1⟩⟩
 done := by
   intro X hP hw hK hc i pins s σ H E I hf st hg
   subst hP hw hK
   obtain ⟨xs,hq,hx⟩ := hg
   obtain ⟨its,rv,p,hz⟩ := I.list hq
   obtain ⟨f0,f1,f2,f3,f4,f5⟩ := hf it (by simp)
   have hl := rv.length
   exact wpAny_pyNext_list_end (I.ok.hd hc) st p.isList (by simp; omega) fun h' eb => ⟨rfl,I.turned (t' := s.toks) (fun b o hb e => eb b o hb e) f0 f1 f3 f4 f5⟩
 self := fun _ _ _ _ _ st h => wpAny_pyIter_listiter st h
theorem turn_range {P : Program} {w : World} {K : PySem.W.Frag} {tg : Expr} (it : Addr) (lo : Int) (n : Nat) : Turn P w K tg (Itr lo n) [it] it (fun i h => IsRangeIter h it (lo + (i : Nat) * 1) ((n : Int) - (i : Nat)) 1) where
 mem := by simp
 obj := fun i h st b hb => by
   have e : b = it := by simpa using hb
   subst e
   exact ⟨_,st,fun v z => by
     have z' : Data.fields _ = Data.cell v := z
     cases z'⟩
 keep := fun i h h' st k => k it (by simp) _ st
 item := by
   intro X hP hw hK hc i pins s σ H E I hf st hg
   subst hP hw hK
   obtain ⟨f0,f1,f2,f3,f4,f5⟩ := hf it (by simp)
   have W := Walks.range (prog := X.prog) (w := X.w) (I.ok.hd hc) it lo 1 n
   refine W.item i s _ _ hg st fun v h' tk hv st' kk => ?_
   obtain ⟨t,rfl⟩ := hv
   have I1 : Inv X pins σ H { s with heap := h',toks := tk } := I.turned (fun b o hb e => kk b o (by simpa using hb) e) f0 f1 f3 f4 f5
   refine ⟨_,rfl,go_of (s := { s with heap := h',toks := tk }) (n := "range_iterator") st' rfl rfl (by decide) ⟨.int (lo + i),H,I1,⟨t,?_⟩,⟨rfl,rfl⟩,st',fun b hb => (hf b hb).1⟩⟩
   rw [Int.mul_one]
 done := by
   intro X hP hw hK hc i pins s σ H E I hf st hg
   subst hP hw hK
   obtain ⟨f0,f1,f2,f3,f4,f5⟩ := hf it (by simp)
   exact wpAny_pyNext_range_end (I.ok.hd hc) st (by have : n ≤ i := hg; omega) fun h' eb => ⟨rfl,I.turned (t' := s.toks) (fun b o hb e => eb b o hb e) f0 f1 f3 f4 f5⟩
 self := fun _ _ _ _ _ st h => wpAny_pyIter_rangeiter st h
end L2

namespace L2
open PySem PySem.Spec PyProof.Rows
section
variable {X : Cx} {tg : Expr}
def iList (K : PySem.W.Frag) (tl : TE) : TI := fun σ H R => tl σ H fun x H1 => ∃ a,x = .ref a ∧ (∃ xs,SqL K H1 a xs) ∧ R (Itl K a) H1
theorem pi_list {l : Expr} {tl : TE} (hl : PE X l tl) : PI X tg l (iList X.K tl) := by
 intro pins s σ H R I h
 refine thn (hl pins s σ H _ I h) fun v s1 ⟨x,H1,I1,r1,q1⟩ => ?_
 obtain ⟨a,e,⟨xs,hq⟩,q⟩ := q1
 subst e
 cases r1
 obtain ⟨its,rv,p,hz⟩ := I1.list hq
 refine wpAny_pyIter_list p.isList ?_
 refine ⟨s1.heap.objs.size,[s1.heap.objs.size],_,_,H1,rfl,I1.kept (t' := s1.toks) fun b o e => Heap.get?_push_of_some _ e,turn_list a _,⟨_,Heap.get?_push_size _ rfl,rfl,rfl⟩,fun b hb => ?_,q⟩
 have e : b = s1.heap.objs.size := by simpa using hb
 subst e
 exact I1.fpOk (Nat.le_refl _) (I1.hok.fresh (Nat.le_refl _))
theorem range_it {pins : List (Addr × Obj)} {σ : St} {H : Hp} {s : Shared} {R : It → Hp → Prop} {E : Value → Shared → Prop} {lo hi : Int} {t u v : Tok} {tk : Nat} (I : Inv X pins σ H s) (h1 : -(2 ^ 62) ≤ lo) (h2 : lo < 2 ^ 62) (h3 : -(2 ^ 62) ≤ hi) (h4 : hi < 2 ^ 62)
   (q : R (Itr lo (hi - lo).toNat) H) : wpAny (model X.prog X.w) X.A (pyIter (.ref s.heap.objs.size)) (PIE X pins σ tg R) E { s with heap := s.heap.push { cls := .type "range",data := .fields #[.int lo t,.int hi u,.int 1 v] },toks := tk } := by
 refine wpAny_pyIter_range (IsRange.new ..) (small_one h1 h2 h3 h4) ?_
 have I1 : Inv X pins σ H { s with heap := s.heap.push { cls := .type "range",data := .fields #[.int lo t,.int hi u,.int 1 v] },toks := tk } := I.kept fun b o e => Heap.get?_push_of_some _ e
 refine ⟨(s.heap.push { cls := .type "range",data := .fields #[.int lo t,.int hi u,.int 1 v] }).objs.size,[(s.heap.push { cls := .type "range",data := .fields #[.int lo t,.int hi u,.int 1 v] }).objs.size],_,_,H,rfl,
   I1.kept (t' := tk) fun b o e => Heap.get?_push_of_some _ e,turn_range _ lo (hi - lo).toNat,?_,fun b hb => ?_,q⟩
 · have e1 : lo + ((0 : Nat) : Int) * 1 = lo := by simp
   have e2 : (((hi - lo).toNat : Nat) : Int) - ((0 : Nat) : Int) = Builtin.Range.rangeSize lo hi 1 := by rw [rangeSize_one]; split <;> omega
   show IsRangeIter _ _ (lo + ((0 : Nat) : Int) * 1) ((((hi - lo).toNat : Nat) : Int) - ((0 : Nat) : Int)) 1
   rw [e1,e2]
   exact Heap.get?_push_size _ rfl
 · have e : b = (s.heap.push { cls := .type "range",data := .fields #[.int lo t,.int hi u,.int 1 v] }).objs.size := by simpa using hb
   subst e
   exact I1.fpOk (Nat.le_refl _) (I1.hok.fresh (Nat.le_refl _))
def iRng1 (ta : TA) : TI := fun σ H R => ta σ H fun vs H1 => ∃ j : Int,vs = [.int j] ∧ -(2 ^ 62) ≤ j ∧ j < 2 ^ 62 ∧ R (Itr 0 j.toNat) H1
def iRng2 (ta : TA) : TI := fun σ H R => ta σ H fun vs H1 => ∃ i j : Int,vs = [.int i,.int j] ∧ (-(2 ^ 62) ≤ i ∧ i < 2 ^ 62 ∧ -(2 ^ 62) ≤ j ∧ j < 2 ^ 62) ∧ R (Itr i (j - i).toNat) H1
theorem pi_range1 {a : Expr} {ta : TA} {p pos : Pos} (hg : Gl X "range") (hm : X.mg "range" = none) (ha : PA X [a] ta) (hs : starEach [a] X.env = [(false,eval a X.env)] := by rfl) : PI X tg (.Call (.Name "range" p) [a] [] pos) (iRng1 ta) := by
 intro pins s σ H R I h
 refine Call_ (ld_blt I hg hm boot_range (PyProof.Rows.callWith_type1 (thn (ha pos pins s σ H _ I h) fun us s1 ⟨vs,H1,I1,r1,q1⟩ => ?_) hs rfl))
 obtain ⟨j,e,q1,q2,q⟩ := q1
 subst e
 cases r1 with
 | cons r rr =>
   cases rr
   obtain ⟨t,rfl⟩ := r
   exact call_range_1 (range_it I1 (by omega) (by omega) q1 q2 (by simpa using q))
theorem pi_range2 {a b : Expr} {ta : TA} {p pos : Pos} (hg : Gl X "range") (hm : X.mg "range" = none) (ha : PA X [a,b] ta) (hs : starEach [a,b] X.env = [(false,eval a X.env),(false,eval b X.env)] := by rfl) (hs2 : starEach [b] X.env = [(false,eval b X.env)] := by rfl) :
   PI X tg (.Call (.Name "range" p) [a,b] [] pos) (iRng2 ta) := by
 intro pins s σ H R I h
 refine Call_ (ld_blt I hg hm boot_range (PyProof.Rows.callWith_type1 (thn (ha pos pins s σ H _ I h) fun us s1 ⟨vs,H1,I1,r1,q1⟩ => ?_) (by rw [hs,hs2]) (by rw [hs2]; rfl)))
 obtain ⟨i,j,e,⟨q1,q2,q3,q4⟩,q⟩ := q1
 subst e
 cases r1 with
 | cons r rr =>
   cases rr with
   | cons r' rr =>
     cases rr
     obtain ⟨t,rfl⟩ := r
     obtain ⟨t',rfl⟩ := r'
     exact call_range_2 (range_it I1 q1 q2 q3 q4 q)

def tFor (wi : TI) (g : TG) (tb : TS) : TS := fun D σ H => wi σ H fun J H1 => ∃ W : Nat → Nat → St → Hp → Prop,(∃ m,W 0 m σ H1) ∧ ∀ i m σ H,W i m σ H →
 (J.stop i H ∧ D.nx σ H) ∨ (J.go i H ∧ ∃ N : St → Hp → Prop,(∀ σ' H',N σ' H' → ∃ m',m' < m ∧ W (i + 1) m' σ' H') ∧ ∀ x H',J.yld i H x H' → g x σ H' fun σ2 H2 => tb { D with nx := N,ct := N,bk := D.nx } σ2 H2)
def pinsAt (fp : List Addr) (h : Heap) : List (Addr × Obj) := fp.filterMap fun b => (h.get? b).map fun o => (b,o)
theorem mem_pinsAt {fp : List Addr} {h : Heap} {b : Addr} {o : Obj} (hb : b ∈ fp) (e : h.get? b = some o) : (b,o) ∈ pinsAt fp h := List.mem_filterMap.mpr ⟨b,hb,by rw [e]; rfl⟩
theorem of_pinsAt {fp : List Addr} {h : Heap} {p : Addr × Obj} (hp : p ∈ pinsAt fp h) : p.1 ∈ fp ∧ h.get? p.1 = some p.2 := by
 obtain ⟨b,hb,e⟩ := List.mem_filterMap.mp hp
 cases q : h.get? b with
 | none => rw [q] at e; cases e
 | some o =>
   rw [q] at e
   have e' : (b,o) = p := Option.some.inj e
   subst e'
   exact ⟨hb,q⟩
theorem Inv.pinned {pins : List (Addr × Obj)} {σ : St} {H : Hp} {s : Shared} {fp : List Addr} (I : Inv X pins σ H s) (hf : ∀ b ∈ fp,FpOk X pins H b) (ho : ∀ b ∈ fp,∃ o,s.heap.get? b = some o ∧ ∀ v,o.data ≠ .cell v) : Inv X (pins ++ pinsAt fp s.heap) σ H s :=
 I.pins_of fun p hp => (List.mem_append.mp hp).elim (fun z => I.pin p (List.mem_append_right _ z)) fun z => by
   obtain ⟨hb,e⟩ := of_pinsAt z
   obtain ⟨f0,f1,f2,_⟩ := hf p.1 hb
   obtain ⟨o,e',d⟩ := ho p.1 hb
   rw [e] at e'; cases e'
   exact ⟨e,f0,f1,f2,d⟩
theorem Inv.unpinned {pins pl : List (Addr × Obj)} {σ : St} {H : Hp} {s : Shared} (I : Inv X (pins ++ pl) σ H s) : Inv X pins σ H s := I.pins_of fun p hp => I.pin p (List.mem_append_right _ (List.mem_append_left _ hp))
theorem ps_for {iter : Expr} {body : List Stmt} {wi : TI} {g : TG} {tb : TS} {pos : Pos} (hp : PassesOwn (model X.prog X.w) X.A X.env X.xe) (hc : X.calm = true) (hi : PI X tg iter wi) (hg : PG X tg g) (hb : PSs X body tb)
   (hs : ∀ x,foldedSetIterable iter X.env x = pure x := by intro _; rfl) : PS X (.For tg iter body [] pos) (tFor wi g tb) := by
 intro pins s σ H D I h
 refine wpAny_For (thn (hi pins s σ H _ I h) fun v s1 h1 => thn h1 fun itv s2 h2 => ?_) hs
 obtain ⟨it,fp,tn,J,H2,e,I2,T,st2,f2,W,⟨m0,w0⟩,turn⟩ := h2
 subst e
 -- what stays true of the iterator's objects through the loop
 have stat : ∀ {H' : Hp},(∀ b ∈ fp,H' b = none) → ∀ b ∈ fp,FpOk X pins H' b := fun hn b hb => ⟨hn b hb,(f2 b hb).2⟩
 refine codeAny_forLoop_any (fun n s' => ∃ i σ' H',Inv X pins σ' H' s' ∧ tn i s'.heap ∧ (∀ b ∈ fp,H' b = none) ∧ W i n σ' H') ?_ m0 ⟨0,σ,H2,I2,st2,fun b hb => (f2 b hb).1,w0⟩
 rintro n s3 ⟨i,σ3,H3,I3,st3,fr3,w3⟩
 rcases turn i n σ3 H3 w3 with ⟨stop,qn⟩ | ⟨go,N,hN,step⟩
 · refine wpAny_passesOwn hp (thn (T.done X rfl rfl rfl hc i pins s3 σ3 H3 X.xe I3 (stat fr3) st3 stop) fun r s4 ⟨hr,I4⟩ => ?_)
   subst hr
   exact wpAny_execs_nil ⟨σ3,H3,I4,qn⟩
 · refine wpAny_passesOwn hp (thn (T.item X rfl rfl rfl hc i pins s3 σ3 H3 X.xe I3 (stat fr3) st3 go) fun r s4 ⟨u,hr,h4⟩ => ?_)
   subst hr
   refine wpAny_passesOwn hp (thn h4 fun _ s5 ⟨x,H5,I5,r5,y5,st5,fr5⟩ => ?_)
   have I5' := I5.pinned (stat fr5) (T.obj _ _ st5)
   refine wpAny_passesOwn hp (thn (hg _ s5 σ3 H5 x u _ I5' r5 (step x H5 y5)) fun _ s6 ⟨σ6,H6,I6,q6⟩ => ?_)
   refine wpAny_passesOwn hp (thn (hb _ s6 σ6 H6 _ I6 q6) fun f s7 q7 => ?_)
   have again : ∀ {σ7 : St} {H7 : Hp},Inv X (pins ++ pinsAt fp s5.heap) σ7 H7 s7 → N σ7 H7 → ∃ m,m < n ∧ ∃ i σ' H',Inv X pins σ' H' s7 ∧ tn i s7.heap ∧ (∀ b ∈ fp,H' b = none) ∧ W i m σ' H' := fun {σ7 H7} I7 n7 => by
     obtain ⟨m',hm,w7⟩ := hN σ7 H7 n7
     refine ⟨m',hm,i + 1,σ7,H7,I7.unpinned,T.keep _ _ _ st5 fun b hb o e => (I7.pin (b,o) (List.mem_append_right _ (List.mem_append_right _ (mem_pinsAt hb e)))).1,fun b hb => ?_,w7⟩
     obtain ⟨o,e,d⟩ := T.obj _ _ st5 b hb
     exact (I7.pin (b,o) (List.mem_append_right _ (List.mem_append_right _ (mem_pinsAt hb e)))).2.1
   cases f with
   | next => obtain ⟨σ7,H7,I7,n7⟩ := q7; exact again I7 n7
   | cont => obtain ⟨σ7,H7,I7,n7⟩ := q7; exact again I7 n7
   | brk => obtain ⟨σ7,H7,I7,q7⟩ := q7; exact ⟨σ7,H7,I7.unpinned,q7⟩
   | ret v => obtain ⟨x7,σ7,H7,I7,r7,q7⟩ := q7; exact ⟨x7,σ7,H7,I7.unpinned,r7,q7⟩
end

theorem for_list {K : PySem.W.Frag} {a : Addr} {xs : List V} {g : TG} {tb : TS} {D : Ends} {σ : St} {H : Hp} (Pv : Nat → St → Hp → Prop) (h0 : Pv 0 σ H) (hl : ∀ i σ H,i ≤ xs.length → Pv i σ H → SqL K H a xs)
   (hs : ∀ i x σ H,xs[i]? = some x → Pv i σ H → g x σ H fun σ2 H2 => tb { D with nx := Pv (i + 1),ct := Pv (i + 1),bk := D.nx } σ2 H2) (hd : ∀ σ H,Pv xs.length σ H → D.nx σ H) :
   ∃ W : Nat → Nat → St → Hp → Prop,(∃ m,W 0 m σ H) ∧ ∀ i m σ H,W i m σ H →
     ((Itl K a).stop i H ∧ D.nx σ H) ∨ ((Itl K a).go i H ∧ ∃ N : St → Hp → Prop,(∀ σ' H',N σ' H' → ∃ m',m' < m ∧ W (i + 1) m' σ' H') ∧ ∀ x H',(Itl K a).yld i H x H' → g x σ H' fun σ2 H2 => tb { D with nx := N,ct := N,bk := D.nx } σ2 H2) := by
 refine ⟨fun i m σ H => m = xs.length - i ∧ i ≤ xs.length ∧ Pv i σ H,⟨xs.length,by simp,Nat.zero_le _,h0⟩,?_⟩
 rintro i m σ H ⟨rfl,hi,p⟩
 have q := hl i σ H hi p
 by_cases hlt : i < xs.length
 · refine .inr ⟨⟨xs,xs[i],q,by simp [hlt]⟩,Pv (i + 1),fun σ' H' p' => ⟨xs.length - (i + 1),by omega,rfl,hlt,p'⟩,fun x H' y => ?_⟩
   obtain ⟨e,y⟩ := y
   subst e
   exact hs i x σ _ (y xs q) p
 · have e : i = xs.length := by omega
   subst e
   exact .inl ⟨⟨xs,q,Nat.le_refl _⟩,hd σ H p⟩
theorem for_range {lo : Int} {n : Nat} {g : TG} {tb : TS} {D : Ends} {σ : St} {H : Hp} (Pv : Nat → St → Hp → Prop) (h0 : Pv 0 σ H)
   (hs : ∀ i σ H,i < n → Pv i σ H → g (.int (lo + i)) σ H fun σ2 H2 => tb { D with nx := Pv (i + 1),ct := Pv (i + 1),bk := D.nx } σ2 H2) (hd : ∀ σ H,Pv n σ H → D.nx σ H) :
   ∃ W : Nat → Nat → St → Hp → Prop,(∃ m,W 0 m σ H) ∧ ∀ i m σ H,W i m σ H →
     ((Itr lo n).stop i H ∧ D.nx σ H) ∨ ((Itr lo n).go i H ∧ ∃ N : St → Hp → Prop,(∀ σ' H',N σ' H' → ∃ m',m' < m ∧ W (i + 1) m' σ' H') ∧ ∀ x H',(Itr lo n).yld i H x H' → g x σ H' fun σ2 H2 => tb { D with nx := N,ct := N,bk := D.nx } σ2 H2) := by
 refine ⟨fun i m σ H => m = n - i ∧ i ≤ n ∧ Pv i σ H,⟨n,by simp,Nat.zero_le _,h0⟩,?_⟩
 rintro i m σ H ⟨rfl,hi,p⟩
 by_cases hlt : i < n
 · refine .inr ⟨hlt,Pv (i + 1),fun σ' H' p' => ⟨n - (i + 1),by omega,rfl,hlt,p'⟩,fun x H' y => ?_⟩
   obtain ⟨e,y⟩ := y
   subst e y
   exact hs i σ _ hlt p
 · have e : i = n := by omega
   subst e
   exact .inl ⟨Nat.le_refl _,hd σ H p⟩
end L2

namespace L2
open PySem PySem.Spec PyProof.Rows

abbrev R2 := V → V → Hp → VK → Prop
def OpR (X : Cx) (f : Value → Value → Sem Value) (r : R2) : Prop :=
 ∀ (pins : List (Addr × Obj)) (s : Shared) (σ : St) (H : Hp) (x y : V) (v u : Value) (Q : VK),Inv X pins σ H s → RelV x v → RelV y u → r x y H Q →
   wpAny (model X.prog X.w) X.A (f v u) (EP X pins σ Q) X.xe s
def CallR (X : Cx) (f : Value) (r : List V → Hp → VK → Prop) : Prop :=
 ∀ (pins : List (Addr × Obj)) (s : Shared) (σ : St) (H : Hp) (xs : List V) (us : List Value) (Q : VK),Inv X pins σ H s → Vals xs us → r xs H Q →
   wpAny (model X.prog X.w) X.A (call f us) (EP X pins σ Q) X.xe s
def tOp (r : R2) (ta tb : TE) : TE := fun σ H Q => ta σ H fun x H1 => tb σ H1 fun y H2 => r x y H2 Q
def rI (C : Int → Int → Prop) (g : Int → Int → V) : R2 := fun x y H Q => ∃ i j,x = .int i ∧ y = .int j ∧ C i j ∧ Q (g i j) H
def rI0 (g : Int → Int → V) : R2 := fun x y H Q => ∃ i j,x = .int i ∧ y = .int j ∧ Q (g i j) H
section
variable {X : Cx} {a b c : Expr} {ta tb tc : TE} {pos : Pos}

theorem binT (ha : PE X a ta) (hb : PE X b tb) {pins : List (Addr × Obj)} {s : Shared} {σ : St} {H : Hp} {R : V → V → Hp → Prop} (I : Inv X pins σ H s)
   (h : ta σ H fun x H1 => tb σ H1 fun y H2 => R x y H2) {Q : Value → Shared → Prop} {f : Value → Value → Sem Value}
   (hf : ∀ v u s2 x y H2,Inv X pins σ H2 s2 → RelV x v → RelV y u → R x y H2 → wpAny (model X.prog X.w) X.A (f v u) Q X.xe s2) :
   wpAny (model X.prog X.w) X.A (eval a X.env) (fun v s₁ => wpAny (model X.prog X.w) X.A (eval b X.env) (fun u s₂ => wpAny (model X.prog X.w) X.A (f v u) Q X.xe s₂) X.xe s₁) X.xe s := by
 refine thn (ha pins s σ H _ I h) fun v s1 ⟨x,H1,I1,r1,q1⟩ => ?_
 refine thn (hb pins s1 σ H1 _ I1 q1) fun u s2 ⟨y,H2,I2,r2,q2⟩ => ?_
 exact hf v u s2 x y H2 I2 r1 r2 q2

theorem pe_op {op : Operator} {r : R2} (ho : OpR X (binaryOp op) r) (ha : PE X a ta) (hb : PE X b tb) : PE X (.BinOp a op b pos) (tOp r ta tb) := by
 intro pins s σ H Q I h
 exact wpAny_BinOp (binT ha hb I h fun v u s2 x y H2 I2 rx ry q => ho pins s2 σ H2 x y v u Q I2 rx ry q)
theorem opI {f : Value → Value → Sem Value} {C : Int → Int → Prop} {g : Int → Int → Int}
   (rule : ∀ (i j : Int) (t u : Tok) (s : Shared) (Q : Value → Shared → Prop) (E : Value → Shared → Prop),C i j → Q (.int (g i j) s.toks) { s with toks := s.toks + 1 } → wpAny (model X.prog X.w) X.A (f (.int i t) (.int j u)) Q E s) :
   OpR X f (rI C fun i j => .int (g i j)) := by
 intro pins s σ H x y v u Q I rx ry h
 obtain ⟨i,j,rfl,rfl,hc,q⟩ := h
 obtain ⟨t,rfl⟩ := rx
 obtain ⟨t',rfl⟩ := ry
 exact rule i j t t' s _ _ hc ⟨.int (g i j),H,I.tok _,⟨_,rfl⟩,q⟩
theorem opI0 {f : Value → Value → Sem Value} {g : Int → Int → Int}
   (rule : ∀ (i j : Int) (t u : Tok) (s : Shared) (Q : Value → Shared → Prop) (E : Value → Shared → Prop),Q (.int (g i j) s.toks) { s with toks := s.toks + 1 } → wpAny (model X.prog X.w) X.A (f (.int i t) (.int j u)) Q E s) :
   OpR X f (rI0 fun i j => .int (g i j)) := by
 intro pins s σ H x y v u Q I rx ry h
 obtain ⟨i,j,rfl,rfl,q⟩ := h
 obtain ⟨t,rfl⟩ := rx
 obtain ⟨t',rfl⟩ := ry
 exact rule i j t t' s _ _ ⟨.int (g i j),H,I.tok _,⟨_,rfl⟩,q⟩
theorem opB0 {f : Value → Value → Sem Value} {g : Int → Int → Bool}
   (rule : ∀ (i j : Int) (t u : Tok) (s : Shared) (Q : Value → Shared → Prop) (E : Value → Shared → Prop),Q (.bool (g i j)) s → wpAny (model X.prog X.w) X.A (f (.int i t) (.int j u)) Q E s) :
   OpR X f (rI0 fun i j => .bl (g i j)) := by
 intro pins s σ H x y v u Q I rx ry h
 obtain ⟨i,j,rfl,rfl,q⟩ := h
 obtain ⟨t,rfl⟩ := rx
 obtain ⟨t',rfl⟩ := ry
 exact rule i j t t' s _ _ ⟨.bl (g i j),H,I,rfl,q⟩

def CDiv (i j : Int) : Prop := 0 < j ∧ j < 1073741824
def CPow (i j : Int) : Prop := 0 ≤ j ∧ j ≤ 1000000 ∧ i.natAbs < 2 ^ 64
def CMul (i j : Int) : Prop := (-(2 ^ 64) < i ∧ i < 2 ^ 64) ∨ (-(2 ^ 64) < j ∧ j < 2 ^ 64)
theorem CMul.ok {i j : Int} (h : CMul i j) : IntMulOk i j := by
 rcases h with ⟨h1,h2⟩ | ⟨h1,h2⟩
 · exact .of_left (intBits_le_64 h1 h2)
 · exact .of_right (intBits_le_64 h1 h2)
theorem op_add : OpR X (binaryOp .Add) (rI0 fun i j => .int (i + j)) := opI0 fun _ _ _ _ _ _ _ q => add_int q
theorem op_sub : OpR X (binaryOp .Sub) (rI0 fun i j => .int (i - j)) := opI0 fun _ _ _ _ _ _ _ q => sub_int q
theorem op_fdiv : OpR X (binaryOp .FloorDiv) (rI CDiv fun i j => .int (i / j)) := opI fun i j _ _ _ _ _ hc q => by
 have h1 : (0 : Int) < j := hc.1
 have h2 : j < 1073741824 := hc.2
 exact floordiv_int (by omega) (by rw [Int.fdiv_eq_ediv_of_nonneg i (by omega)]; exact q) (.inl (PyProof.noPylong_small (by omega)))
theorem op_mod : OpR X (binaryOp .Mod) (rI (fun _ j => 0 < j) fun i j => .int (i % j)) := opI fun i j _ _ _ _ _ hc q => by
 have h1 : (0 : Int) < j := hc
 exact mod_int' (by omega) (by rw [Int.fmod_eq_emod_of_nonneg i (by omega)]; exact q)
theorem op_pow : OpR X (binaryOp .Pow) (rI CPow fun i j => .int (i ^ j.toNat)) := opI fun _ _ _ _ _ _ _ hc q => pow_int_small hc.1 hc.2.1 hc.2.2 q
end

section
variable {X : Cx} {a b c : Expr} {ta tb tc : TE} {pos : Pos}
theorem fin_bl {pins : List (Addr × Obj)} {σ : St} {H : Hp} {s : Shared} {Q : VK} {k k' : Bool} (I : Inv X pins σ H s) (q : Q (.bl k) H) (e : k = k') : EP X pins σ Q (.bool k') s := by
 subst e
 exact ⟨.bl k,H,I,rfl,q⟩
theorem op_lt : OpR X (compareOp .Lt) (rI0 fun i j => .bl (decide (i < j))) := opB0 fun _ _ _ _ _ _ _ q => lt_int q
theorem op_le : OpR X (compareOp .LtE) (rI0 fun i j => .bl (decide (i ≤ j))) := opB0 fun _ _ _ _ _ _ _ q => le_int q
theorem op_gt : OpR X (compareOp .Gt) (rI0 fun i j => .bl (decide (j < i))) := opB0 fun _ _ _ _ _ _ _ q => gt_int q
theorem op_ge : OpR X (compareOp .GtE) (rI0 fun i j => .bl (decide (j ≤ i))) := opB0 fun _ _ _ _ _ _ _ q => ge_int q
theorem op_lt_str : OpR X (compareOp .Lt) (fun x y H Q => ∃ i j,x = .str i ∧ y = .str j ∧ Q (.bl (decide (i.cps.toList < j.cps.toList))) H) := by
 intro pins s σ H x y v u Q I rx ry h
 obtain ⟨i,j,rfl,rfl,q⟩ := h
 obtain ⟨t,rfl⟩ := rx
 obtain ⟨t',rfl⟩ := ry
 exact lt_str (fin_bl I q rfl)
theorem op_isN : OpR X (compareOp .Is) (fun x y H Q => y = .non ∧ Q (.bl (decide (x = .non))) H) := by
 intro pins s σ H x y v u Q I rx ry h
 obtain ⟨rfl,q⟩ := h
 cases ry
 refine is_none_gen (fin_bl I q ?_)
 cases x <;> first
   | (cases rx; rfl)
   | (obtain ⟨t,rfl⟩ := rx; rfl)
theorem op_notN : OpR X (compareOp .IsNot) (fun x y H Q => y = .non ∧ Q (.bl (!decide (x = .non))) H) := by
 intro pins s σ H x y v u Q I rx ry h
 obtain ⟨rfl,q⟩ := h
 cases ry
 refine isnot_none_gen (fin_bl I q ?_)
 cases x <;> first
   | (cases rx; rfl)
   | (obtain ⟨t,rfl⟩ := rx; rfl)

theorem OpR.or {f : Value → Value → Sem Value} {r r' : R2} (h : OpR X f r) (h' : OpR X f r') : OpR X f (fun x y H Q => r x y H Q ∨ r' x y H Q) := by
 intro pins s σ H x y v u Q I rx ry q
 rcases q with q | q
 · exact h pins s σ H x y v u Q I rx ry q
 · exact h' pins s σ H x y v u Q I rx ry q

theorem nomark (b : Expr) {op : CmpOp} (h : op ≠ .In := by decide) (h2 : op ≠ .NotIn := by decide) : behindInMarks op b = false := by
 have e1 : (op == CmpOp.In) = false := by cases op <;> first | rfl | exact absurd rfl h
 have e2 : (op == CmpOp.NotIn) = false := by cases op <;> first | rfl | exact absurd rfl h2
 cases b <;> simp [behindInMarks,e1,e2]
theorem pe_cmpR {op : CmpOp} {r : R2} (ho : OpR X (compareOp op) r) (ha : PE X a ta) (hb : PE X b tb) (hm : behindInMarks op b = false) : PE X (.Compare a [op] [b] pos) (tOp r ta tb) := by
 intro pins s σ H Q I h
 exact wpAny_Compare1 (binT ha hb I h fun v u s2 x y H2 I2 rx ry q => ho pins s2 σ H2 x y v u Q I2 rx ry q) hm
def tTest (t : TE) : TT := fun σ H Q => t σ H fun x H' => ∃ k,x = .bl k ∧ Q k H'
theorem pt_cmpR {op : CmpOp} {r : R2} (ho : OpR X (compareOp op) r) (ha : PE X a ta) (hb : PE X b tb) (hm : behindInMarks op b = false) : PT X (.Compare a [op] [b] pos) (tTest (tOp r ta tb)) := by
 intro pins s σ H Q I h
 refine wpAny_isTrue_Compare1 (thn (ha pins s σ H _ I h) fun v s1 ⟨x,H1,I1,r1,q1⟩ => thn (hb pins s1 σ H1 _ I1 q1) fun u s2 ⟨y,H2,I2,r2,q2⟩ =>
   thn (ho pins s2 σ H2 x y v u _ I2 r1 r2 q2) fun c s3 ⟨z,H3,I3,r3,k,e,q3⟩ => ?_) hm
 subst e
 cases r3
 exact wpAny_truthy_bool ⟨H3,I3,q3⟩
def tChain (r r' : R2) (ta tb tc : TE) : TE := fun σ H Q => ta σ H fun x H1 => tb σ H1 fun y H2 => r x y H2 fun z H3 => ∃ k,z = .bl k ∧
 (if k = true then tc σ H3 fun w' H4 => r' y w' H4 Q else Q (.bl false) H3)
theorem pt_chain {op op' : CmpOp} {r r' : R2} (ho : OpR X (compareOp op) r) (ho' : OpR X (compareOp op') r') (ha : PE X a ta) (hb : PE X b tb) (hc : PE X c tc)
   (hm : lastMarks [op,op'] [b,c] = false := by with_unfolding_all rfl) : PT X (.Compare a [op,op'] [b,c] pos) (tTest (tChain r r' ta tb tc)) := by
 intro pins s σ H Q I h
 refine isTrue_chain (thn (ha pins s σ H _ I h) fun v s1 ⟨x,H1,I1,r1,q1⟩ => test_link (thn (hb pins s1 σ H1 _ I1 q1) fun u s2 ⟨y,H2,I2,r2,q2⟩ =>
   thn (ho pins s2 σ H2 x y v u _ I2 r1 r2 q2) fun d s3 ⟨z,H3,I3,r3,k,e,q3⟩ => ?_)) hm
 subst e
 cases r3
 refine wpAny_truthy_bool ?_
 cases k with
 | false =>
   obtain ⟨k',e',q'⟩ := q3
   cases e'
   exact ite_ff ⟨H3,I3,q'⟩
 | true =>
   refine ite_tt (test_last (thn (hc pins s3 σ H3 _ I3 q3) fun w' s4 ⟨z',H4,I4,r4,q4⟩ => thn (ho' pins s4 σ H4 y z' u w' _ I4 r2 r4 q4) fun d' s5 ⟨z2,H5,I5,r5,k2,e2,q5⟩ => ?_))
   subst e2
   cases r5
   exact wpAny_truthy_bool ⟨H5,I5,q5⟩

theorem line63 : (sizeLine : Nat) < 2 ^ 63 := by rw [sizeLine_eq]; decide
theorem op_add_str : OpR X (binaryOp .Add) (fun x y H Q => ∃ i j,x = .str i ∧ y = .str j ∧ i.length + j.length ≤ sizeLine ∧ Q (.str (i ++ j)) H) := by
 intro pins s σ H x y v u Q I rx ry h
 obtain ⟨i,j,rfl,rfl,hz,q⟩ := h
 obtain ⟨t,rfl⟩ := rx
 obtain ⟨t',rfl⟩ := ry
 exact add_str (fun t' tk => ⟨.str (i ++ j),H,I.tok _,⟨_,rfl⟩,q⟩) hz
theorem vals1 {x : V} {us : List Value} (r : Vals [x] us) : ∃ u,us = [u] ∧ RelV x u := by
 cases r with
 | cons r1 r2 => cases r2; exact ⟨_,rfl,r1⟩
theorem vals2 {x y : V} {us : List Value} (r : Vals [x,y] us) : ∃ u w',us = [u,w'] ∧ RelV x u ∧ RelV y w' := by
 cases r with
 | cons r1 r2 =>
   cases r2 with
   | cons r3 r4 => cases r4; exact ⟨_,_,rfl,r1,r3⟩
theorem call_abs : CallR X (.builtin "abs") (fun xs H Q => ∃ i,xs = [.int i] ∧ Q (.int (if i < 0 then -i else i)) H) := by
 intro pins s σ H xs us Q I r h
 obtain ⟨i,rfl,q⟩ := h
 obtain ⟨u,rfl,t,rfl⟩ := vals1 r
 exact call_abs_int fun u tk => ⟨.int (if i < 0 then -i else i),H,I.tok _,⟨_,rfl⟩,q⟩
theorem call_max2 (hc : X.calm = true) : CallR X (.builtin "max") (fun xs H Q => ∃ i j,xs = [.int i,.int j] ∧ Q (.int (if j > i then j else i)) H) := by
 intro pins s σ H xs us Q I r h
 obtain ⟨i,j,rfl,q⟩ := h
 obtain ⟨u,w',rfl,⟨t,rfl⟩,⟨t',rfl⟩⟩ := vals2 r
 refine max_two_ints (I.ok.hd hc) fun h' tk k => ⟨_,H,I.kept k,?_,q⟩
 by_cases hj : j > i
 · rw [if_pos hj,if_pos hj]; exact ⟨_,rfl⟩
 · rw [if_neg hj,if_neg hj]; exact ⟨_,rfl⟩
end
end L2

namespace L2
open PySem PySem.Spec PyProof.Rows

structure ObjM (h : Heap) (x dx C : Addr) (mA : Str → Option Value) : Prop where
 obj : h.get? x = some (PySem.W.instObj C dx)
 ns : h.Ns1 dx mA
 ne : dx ≠ x

theorem lookIn_ns {h : Heap} {dx : Addr} {mA : Str → Option Value} (n : h.Ns1 dx mA) : ∃ od,h.get? dx = some od ∧ ∀ name,PySem.W.lookIn name od = some (mA name) := by
 obtain ⟨o,es,ep,ho,hd,hk,_,hm⟩ := n
 refine ⟨o,ho,fun name => ?_⟩
 have e := hm name
 unfold nsFind findBy at e
 rw [← Array.find?_toList] at e
 unfold PySem.W.lookIn
 rw [hd]
 dsimp only
 split
 · rename_i y q
   rw [q] at e
   exact congrArg some e
 · rename_i q
   rw [q] at e
   have a : es.toList.any (·.refKey) = false := by
     rw [List.any_eq_false]
     intro y hy
     obtain ⟨z,t,hkey⟩ := hk y (Array.mem_toList_iff.mp hy)
     simp [DictEntry.refKey,hkey]
   have a' : ¬ es.toList.any (·.refKey) = true := by rw [a]; exact Bool.false_ne_true
   rw [if_neg a']
   exact congrArg some e

theorem ObjM.look {h : Heap} {x dx C : Addr} {mA : Str → Option Value} (I : ObjM h x dx C mA) : ∃ od,PySem.W.InstAt h x (PySem.W.instObj C dx) C (some od) ∧ ∀ name,PySem.W.lookIn name od = some (mA name) :=
 let ⟨od,ho,hl⟩ := lookIn_ns I.ns
 ⟨od,⟨I.obj,rfl,rfl,ho⟩,hl⟩

section
variable {prog : Program} {w : World} {A : Around} {E : Value → Shared → Prop} {s : Shared} {K : PySem.W.Frag} {x dx C f : Addr} {mA : Str → Option Value} {name : Str} {v : Value}

theorem get_map {expr : Bool} {Q : Value → Shared → Prop} (X : K.In s.heap) (I : ObjM s.heap x dx C mA) (hg : PySem.W.plainGet K C name = true) (hh : PySem.W.hasDictIn K C = true)
   (ha : PySem.W.findIn K (.ref C) name = some none) (hv : mA name = some v) (hv' : PySem.W.handedIn v = true) (h : Q v { s with toks := s.toks + 1 }) :
   wpAny (model prog w) A (getAttr (.ref x) name expr) Q E s := by
 obtain ⟨od,J,hl⟩ := I.look
 exact PySem.W.get_value X J (PySem.W.plainGet_of hg).1 (PySem.W.findObj_own hh ha rfl (by rw [hl,hv])) hv' h

theorem get_meth {pl : Sem Bool} {Q : Value × List Value → Shared → Prop} (X : K.In s.heap) (I : ObjM s.heap x dx C mA) (hg : PySem.W.plainGet K C name = true)
   (hf : PySem.W.findIn K (.ref C) name = some (some (.ref f))) (ht : PySem.W.isFn K (.ref f) = true) (hv : mA name = none) (h : Q (.ref f,[.ref x]) s) :
   wpAny (model prog w) A (getMethod (.ref x) name pl) Q E s := by
 obtain ⟨od,J,hl⟩ := I.look
 exact PySem.W.method_fn X J (PySem.W.plainGet_of hg).1 (PySem.W.plainGet_of hg).2 hf (beq_iff_eq.mp ht) (by show (PySem.W.lookIn name od).map (·.isSome) = some false; rw [hl,hv]; rfl) h

theorem set_map {ns : List Str} {Q : Unit → Shared → Prop} (X : K.In s.heap) (I : ObjM s.heap x dx C mA)
   (hs : PySem.W.findIn K (.ref C) "__setattr__" = some (some (.builtin "object.__setattr__"))) (hp : PySem.W.plainOver K C = true) (ht : PySem.W.takerIn K C name = some none) (hh : PySem.W.hasDictIn K C = true)
   (hw : PySem.Within mA ns) (hsz : ns.length ≤ sizeLine)
   (h : ∀ h',ObjM h' x dx C (fun y => if y = name then some v else mA y) → Heap.SameBut dx s.heap h' → Q () { s with heap := h',toks := s.toks + 2 }) :
   wpAny (model prog w) A (setAttr (.ref x) name v) Q E s := by
 obtain ⟨od,J,hl⟩ := I.look
 refine PySem.W.set_plain X J hs (PySem.W.osa_open (s := { s with toks := s.toks + 1 }) (r := none) X J hp ht fun b => ?_)
 obtain ⟨cd,hc,hd'⟩ := PySem.W.any_some hh
 have hx : s.heap.get? x = some ⟨.ref C,some dx,.plain,#[]⟩ := I.obj
 refine wpAny_bind (wpAny_pure (wpAny_bind (wpAny_bind (wpAny_loadPart hx (wpAny_bind (PySem.W.Looks.here (s := { s with toks := s.toks + 1 }) (PySem.W.looks_clsIn X hc) ?_))))))
 rw [hd']
 refine wpAny_pure (a := some dx) (wpAny_bind (wpAny_pure (wpAny_bind ?_)))
 refine wpAny_nsSet1 (s := { s with toks := s.toks + 1 }) I.ns fun h' hn2 hs2 => ?_
 obtain ⟨oD,esD,epD,hoD,hdD,hcD⟩ := hn2.count (PySem.Within.cons name v hw)
 refine wpAny_bind (wpAny_lookBehind hoD (by rw [hdD]; exact pastItsLine_dict (Nat.le_trans hcD (by rw [List.length_cons]; omega))) ?_)
 exact wpAny_pure (h _ ⟨(hs2.2 _ (Ne.symm I.ne)).trans I.obj,hn2,I.ne⟩ hs2)

theorem make_map {R : Result → Shared → Prop} {vs : List Value} {kw : List (Str × Value)} (X : K.In s.heap) (hm : PySem.W.makesIn K C = true)
   (hi : PySem.W.findIn K (.ref C) "__init__" = some (some (.ref f))) (hf : PySem.W.typeIn K (.ref f) = some (.type "function"))
   (h : codeAny (model prog w) (A.under (.builtin "type.__call__" ⟨.ref C :: vs,kw⟩)) (.call (.ref f) ⟨.ref (s.heap.objs.size + 1) :: vs,kw⟩) (PySem.W.InitBack (s.heap.objs.size + 1) R)
     { s with heap := (s.heap.push PySem.W.emptyDict).push (PySem.W.instObj C s.heap.objs.size) }) :
   codeAny (model prog w) A (.call (.ref C) ⟨vs,kw⟩) R s := by
 obtain ⟨hh,g,d,t,os⟩ := s
 exact PySem.W.make_core (PySem.W.makes_of X hm) (PySem.W.looks_findIn X hi) (fun self => PySem.W.bind_fn X self hf) (.inl rfl) h
end

def putF (f : Str) (v : V) : List (Str × V) → List (Str × V)
 | [] => [(f,v)]
 | (g,x) :: r => if g = f then (g,v) :: r else (g,x) :: putF f v r
theorem lookup_putF (f g : Str) (v : V) : ∀ fs : List (Str × V),(putF f v fs).lookup g = if g = f then some v else fs.lookup g
 | [] => by
   show List.lookup g [(f,v)] = _
   by_cases h : g = f
   · have hb : (g == f) = true := beq_iff_eq.mpr h
     simp only [List.lookup,hb,if_pos h]
   · have hb : (g == f) = false := beq_eq_false_iff_ne.mpr h
     simp only [List.lookup,hb,if_neg h]
 | (k,x) :: r => by
   have ih := lookup_putF f g v r
   rw [show putF f v ((k,x) :: r) = (if k = f then (k,v) :: r else (k,x) :: putF f v r) from rfl]
   by_cases hk : k = f
   · rw [if_pos hk]
     by_cases h : g = k
     · have hb : (g == k) = true := beq_iff_eq.mpr h
       simp only [List.lookup,hb,if_pos (h.trans hk)]
     · have hb : (g == k) = false := beq_eq_false_iff_ne.mpr h
       simp only [List.lookup,hb,if_neg (fun e : g = f => h (e.trans hk.symm))]
   · rw [if_neg hk]
     by_cases h : g = k
     · have hb : (g == k) = true := beq_iff_eq.mpr h
       simp only [List.lookup,hb,if_neg (fun e : g = f => hk (h.symm.trans e))]
     · have hb : (g == k) = false := beq_eq_false_iff_ne.mpr h
       simp only [List.lookup,hb]
       exact ih
theorem keys_putF (f : Str) (v : V) : ∀ fs : List (Str × V),f ∈ (putF f v fs).map (·.1) ∧ ∀ g,g ∈ fs.map (·.1) → g ∈ (putF f v fs).map (·.1)
 | [] => ⟨by simp [putF],fun g h => by simp at h⟩
 | (k,x) :: r => by
   obtain ⟨i1,i2⟩ := keys_putF f v r
   rw [show putF f v ((k,x) :: r) = (if k = f then (k,v) :: r else (k,x) :: putF f v r) from rfl]
   by_cases hk : k = f
   · rw [if_pos hk]
     subst hk
     exact ⟨by simp,fun g h => by simpa using h⟩
   · rw [if_neg hk]
     refine ⟨?_,fun g h => ?_⟩
     · rw [List.map_cons]
       exact List.mem_cons_of_mem _ i1
     · rw [List.map_cons] at h ⊢
       rcases List.mem_cons.mp h with e | e
       · exact List.mem_cons.mpr (.inl e)
       · exact List.mem_cons_of_mem _ (i2 g e)
theorem length_putF (f : Str) (v : V) : ∀ fs : List (Str × V),(putF f v fs).length ≤ fs.length + 1
 | [] => by simp [putF]
 | (k,x) :: r => by
   have ih := length_putF f v r
   rw [show putF f v ((k,x) :: r) = (if k = f then (k,v) :: r else (k,x) :: putF f v r) from rfl]
   by_cases hk : k = f
   · rw [if_pos hk,List.length_cons,List.length_cons]; omega
   · rw [if_neg hk,List.length_cons,List.length_cons]; omega

theorem RelO.some_of {v : V} {o : Option Value} (r : RelO (some v) o) : ∃ u,o = some u ∧ RelV v u := by
 cases o with
 | none => exact (show False from r).elim
 | some u => exact ⟨u,rfl,r⟩
theorem RelO.none_of {o : Option Value} (r : RelO none o) : o = none := by
 cases o with
 | none => rfl
 | some u => exact (show False from r).elim
theorem handed_of {v : V} {u : Value} (r : RelV v u) : PySem.W.handedIn u = true := by
 cases v with
 | non => cases (show u = Value.none from r); rfl
 | bl b => cases (show u = Value.bool b from r); rfl
 | int i => obtain ⟨t,e⟩ := (show ∃ t,u = Value.int i t from r); cases e; rfl
 | str x => obtain ⟨t,e⟩ := (show ∃ t,u = Value.str x t from r); cases e; rfl
 | byt b => obtain ⟨t,e⟩ := (show ∃ t,u = Value.bytes b t from r); cases e; rfl
 | flt b => obtain ⟨t,e⟩ := (show ∃ t,u = Value.float b t from r); cases e; rfl
 | ref a => cases (show u = Value.ref a from r); rfl
 | ty n => cases (show u = Value.type n from r); rfl

section
variable {P : Program} {w : World} {H H' : Hp} {h h' : Heap} {a C dx : Addr} {fs fs' : List (Str × V)}
theorem ins_get (hok : HOk P w H h) (e : H a = some (.ins C dx fs)) : ∃ mA,ObjM h a dx C mA ∧ (∀ f,RelO (fs.lookup f) (mA f)) ∧ PySem.Within mA (fs.map (·.1)) ∧ fs.length ≤ 1000 ∧ H dx = some (.own a) := by
 obtain ⟨d,z,ne,ob,mA,n,r,q⟩ := (show ObjOk P w H h a (.ins C dx fs) from hok a _ e)
 exact ⟨mA,⟨ob,n,ne⟩,r,q,z,d⟩
end

structure Cls (K : PySem.W.Frag) (C : Addr) : Prop where
 pg : PySem.W.plainGet K C Str.empty = true
 hd : PySem.W.hasDictIn K C = true
 po : PySem.W.plainOver K C = true
 sa : PySem.W.findIn K (.ref C) "__setattr__" = some (some (.builtin "object.__setattr__"))
theorem Cls.get {K : PySem.W.Frag} {C : Addr} (c : Cls K C) (f : Str) : PySem.W.plainGet K C f = true := c.pg
def NoAttr (K : PySem.W.Frag) (C : Addr) (f : Str) : Prop := PySem.W.findIn K (.ref C) f = some none
theorem NoAttr.taker {K : PySem.W.Frag} {C : Addr} {f : Str} (n : NoAttr K C f) : PySem.W.takerIn K C f = some none := by
 unfold PySem.W.takerIn
 rw [show PySem.W.findIn K (.ref C) f = some none from n]
 rfl
structure Meth (K : PySem.W.Frag) (C : Addr) (m : Str) (f : Addr) : Prop where
 at_ : PySem.W.findIn K (.ref C) m = some (some (.ref f))
 fn : PySem.W.isFn K (.ref f) = true
 kp : PySem.W.keepIn K (.ref f) = true

section
variable {X : Cx} {pins : List (Addr × Obj)} {σ : St} {H : Hp} {s : Shared} {a C dx : Addr} {fs : List (Str × V)} {f : Str} {v : V} {A : Around} {E : Value → Shared → Prop}

theorem getattr_ok {b : Bool} {Q : Value → Shared → Prop} (I : Inv X pins σ H s) (e : H a = some (.ins C dx fs)) (c : Cls X.K C) (n : NoAttr X.K C f) (l : fs.lookup f = some v)
   (h : ∀ u s',Inv X pins σ H s' → RelV v u → Q u s') : wpAny (model X.prog X.w) A (getAttr (.ref a) f b) Q E s := by
 obtain ⟨mA,O,r,_,_,_⟩ := ins_get I.hok e
 obtain ⟨u,hu,ru⟩ := RelO.some_of (v := v) (o := mA f) (by rw [← l]; exact r f)
 exact get_map I.kIn O (c.get f) c.hd n hu (handed_of ru) (h u _ (I.tok _) ru)

theorem getmeth_ok {m : Str} {g : Addr} {pl : Sem Bool} {Q : Value × List Value → Shared → Prop} (I : Inv X pins σ H s) (e : H a = some (.ins C dx fs)) (c : Cls X.K C) (k : Meth X.K C m g) (l : fs.lookup m = none)
   (h : Q (.ref g,[.ref a]) s) : wpAny (model X.prog X.w) A (getMethod (.ref a) m pl) Q E s := by
 obtain ⟨mA,O,r,_,_,_⟩ := ins_get I.hok e
 have hn : mA m = none := RelO.none_of (by rw [← l]; exact r m)
 exact get_meth I.kIn O (c.get m) k.at_ k.fn hn h

theorem setattr_ok {y : V} {u : Value} {Q : Unit → Shared → Prop} (I : Inv X pins σ H s) (e : H a = some (.ins C dx fs)) (c : Cls X.K C) (n : NoAttr X.K C f) (hl : fs.length < 1000) (ry : RelV y u)
   (h : ∀ s',Inv X pins σ (upd H a (.ins C dx (putF f y fs))) s' → Q () s') : wpAny (model X.prog X.w) A (setAttr (.ref a) f u) Q E s := by
 obtain ⟨mA,O,r,wi,_,ho⟩ := ins_get I.hok e
 have hz : (fs.map (·.1)).length ≤ sizeLine := by rw [List.length_map,sizeLine_eq]; omega
 refine set_map I.kIn O c.sa c.po n.taker c.hd wi hz fun h' O' sb => h _ ?_
 have hd : ∃ o,h'.get? dx = some o := let ⟨o,_,_,e',_⟩ := O'.ns; ⟨o,e'⟩
 refine I.write (x := a) (e := dx) (by rw [e]; exact True.intro) (.inr ho) (fun b q hb z => (sb.2 b hb).trans z) hd ?_
 refine ⟨by rw [upd_ne O.ne]; exact ho,?_,O.ne,O'.obj,_,O'.ns,fun g => ?_,fun g hg => ?_⟩
 · have := length_putF f y fs; omega
 · show RelO ((putF f y fs).lookup g) (if g = f then some u else mA g)
   rw [lookup_putF]
   by_cases q : g = f
   · rw [if_pos q,if_pos q]; exact ry
   · rw [if_neg q,if_neg q]; exact r g
 · by_cases q : g = f
   · rw [q]; exact (keys_putF f y fs).1
   · refine (keys_putF f y fs).2 g (wi g fun z => hg ?_)
     show (if g = f then some u else mA g) = none
     rw [if_neg q]; exact z

theorem Inv.made (I : Inv X pins σ H s) : Inv X pins σ (upd (upd H s.heap.objs.size (.own (s.heap.objs.size + 1))) (s.heap.objs.size + 1) (.ins C s.heap.objs.size []))
   { s with heap := (s.heap.push PySem.W.emptyDict).push (PySem.W.instObj C s.heap.objs.size) } := by
 have e1 : (s.heap.push PySem.W.emptyDict).get? s.heap.objs.size = some PySem.W.emptyDict := Heap.get?_push_size s.heap rfl
 have e2 : ((s.heap.push PySem.W.emptyDict).push (PySem.W.instObj C s.heap.objs.size)).get? (s.heap.objs.size + 1) = some (PySem.W.instObj C s.heap.objs.size) := by
   have := Heap.get?_push_size (s.heap.push PySem.W.emptyDict) (o := PySem.W.instObj C s.heap.objs.size) rfl
   rwa [Heap.size_push] at this
 have e3 : (s.heap.push PySem.W.emptyDict).Ns s.heap.objs.size (fun _ => none) := ⟨PySem.W.emptyDict,#[],_,e1,rfl,(fun e he => absurd he (by simp)),fun _ => rfl⟩
 have I1 := I.laid (a := s.heap.objs.size) (o := .own (s.heap.objs.size + 1)) (h' := s.heap.push PySem.W.emptyDict) (t' := s.toks) (fun b u q => Heap.get?_push_of_some _ q) (Nat.le_refl _) ⟨_,e1⟩
 refine I1.laid (a := s.heap.objs.size + 1) (o := .ins C s.heap.objs.size []) (t' := s.toks) (fun b u q => Heap.get?_push_of_some _ q) (Nat.le_of_eq (Heap.size_push _ _)) ?_
 have ne : s.heap.objs.size ≠ s.heap.objs.size + 1 := Nat.ne_of_lt (Nat.lt_succ_self _)
 refine ⟨by rw [upd_ne ne,upd_same],Nat.zero_le _,ne,e2,fun _ => none,(Heap.Ns1.of_empty e3).at fun o q => Heap.get?_push_of_some _ q,fun _ => True.intro,fun y hy => absurd rfl hy⟩

theorem attr_of {prog : Program} {w : World} {env : Env} {e : Expr} {f : Str} {pos : Pos} {s : Shared} {Q : Value → Shared → Prop} (hb : attributeBase e f env (eval e env) = eval e env)
   (h : wpAny (model prog w) A (eval e env) (fun o s₁ => wpAny (model prog w) A (getAttr o f true) Q E s₁) E s) : wpAny (model prog w) A (eval (.Attribute e f pos) env) Q E s :=
 Attribute_any_ h (by rw [arm_eval_Attribute,hb])
end

def tFld (K : PySem.W.Frag) (ta : TE) (f : Str) : TE := fun σ H Q => ta σ H fun x H1 => ∃ a C dx fs v,x = .ref a ∧ H1 a = some (.ins C dx fs) ∧ Cls K C ∧ NoAttr K C f ∧ fs.lookup f = some v ∧ Q v H1
def sFld (K : PySem.W.Frag) (ta tv : TE) (f : Str) : TS := fun D σ H => tv σ H fun y H1 => ta σ H1 fun x H2 => ∃ a C dx fs,x = .ref a ∧ H2 a = some (.ins C dx fs) ∧ Cls K C ∧ NoAttr K C f ∧ fs.length < 1000 ∧
 D.nx σ (upd H2 a (.ins C dx (putF f y fs)))
section
variable {X : Cx} {o e value : Expr} {f : Str} {pos pos' tpos : Pos} {ta tv : TE}
theorem pe_fld (he : PE X e ta) (hb : attributeBase e f X.env (eval e X.env) = eval e X.env) : PE X (.Attribute e f pos) (tFld X.K ta f) := by
 intro pins s σ H Q I h
 refine attr_of hb (thn (he pins s σ H _ I h) fun u s1 ⟨x,H1,I1,rx,a,C,dx,fs,v,ex,ea,c,n,l,q⟩ => ?_)
 subst ex
 obtain rfl : u = Value.ref a := rx
 exact getattr_ok I1 ea c n l fun u' s2 I2 ru => ⟨v,H1,I2,ru,q⟩
theorem ps_fld (ha : PE X o ta) (hv : PE X value tv) (hs : swapsWith value (some (.Attribute o f pos')) pos.line X.env = pure false) : PS X (.Assign [.Attribute o f pos'] value pos) (sFld X.K ta tv f) := by
 intro pins s σ H D I h
 refine plainObj_wpAny_Assign_Attribute (thn (hv pins s σ H _ I h) fun u s1 ⟨y,H1,I1,ry,q⟩ => thn (ha pins s1 σ H1 _ I1 q) fun ov s2 ⟨x,H2,I2,rx,a,C,dx,fs,ex,ea,c,n,l,q2⟩ => ?_) hs
 subst ex
 obtain rfl : ov = Value.ref a := rx
 exact setattr_ok I2 ea c n l ry fun s3 I3 => ⟨σ,_,I3,q2⟩
end

section
variable {X : Cx} {pins : List (Addr × Obj)} {σ : St} {H : Hp} {s : Shared} {A : Around} {E : Value → Shared → Prop} {Q : Value → Shared → Prop} {c : Value} {b : Bool}
inductive TyOf (K : PySem.W.Frag) (H : Hp) : V → Value → Prop where
 | non : TyOf K H .non (.type "NoneType")
 | bl (x : Bool) : TyOf K H (.bl x) (.type "bool")
 | int (i : Int) : TyOf K H (.int i) (.type "int")
 | str (x : Str) : TyOf K H (.str x) (.type "str")
 | flt (x : UInt64) : TyOf K H (.flt x) (.type "float")
 | lst {a : Addr} {xs : List V} (e : H a = some (.lst xs)) : TyOf K H (.ref a) (.type "list")
 | frz {a : Addr} {o : Obj} {xs : List V} (e : H a = some (.frz o (.lst xs))) : TyOf K H (.ref a) (.type "list")
 | tup {a : Addr} {xs : List V} (e : H a = some (.tup xs)) : TyOf K H (.ref a) (.type "tuple")
 | dK {a : Addr} {kvs : List (Key × V)} (e : H a = some (.dK kvs)) : TyOf K H (.ref a) (.type "dict")
 | dT {a : Addr} {kvs : List (List Key × V)} (e : H a = some (.dT kvs)) : TyOf K H (.ref a) (.type "dict")
 | ins {a C dx : Addr} {fs : List (Str × V)} (e : H a = some (.ins C dx fs)) (cl : Cls K C) (ha : PySem.W.findIn K (.ref C) "__class__" = some (some (.builtin "object.__class__")))
     (hn : PySem.W.specialIn K (.builtin "object.__class__") "__get__" = some (some (.builtin "getset_descriptor.__get__"))) (htk : PySem.W.takesIn K (.builtin "object.__class__") = some true)
     (hm : PySem.W.mroIn K C (.type "object") = some true) : TyOf K H (.ref a) (.ref C)
theorem isinst_ok {x : V} {u t : Value} (I : Inv X pins σ H s) (rx : RelV x u) (ty : TyOf X.K H x t) (e : PySem.W.kitOne X.K t c = some b) (h : ∀ tk,Q (.bool b) { s with toks := tk }) :
   wpAny (model X.prog X.w) A (call (.builtin "isinstance") [u,c]) Q E s := by
 cases ty with
 | non => cases (show u = Value.none from rx); exact PySem.W.kia_one PySem.W.kitx_none I.kIn True.intro e (fun z => nomatch z) h
 | bl y => cases (show u = Value.bool y from rx); exact PySem.W.kia_one PySem.W.kitx_bool I.kIn True.intro e (fun z => nomatch z) h
 | int i => obtain ⟨t,q⟩ := (show ∃ t,u = Value.int i t from rx); cases q; exact PySem.W.kia_one PySem.W.kitx_int I.kIn True.intro e (fun z => nomatch z) h
 | str y => obtain ⟨t,q⟩ := (show ∃ t,u = Value.str y t from rx); cases q; exact PySem.W.kia_one PySem.W.kitx_str I.kIn True.intro e (fun z => nomatch z) h
 | flt y => obtain ⟨t,q⟩ := (show ∃ t,u = Value.float y t from rx); cases q; exact PySem.W.kia_one PySem.W.kitx_float I.kIn True.intro e (fun z => nomatch z) h
 | @lst a xs ea =>
   cases (show u = Value.ref a from rx)
   obtain ⟨_,_,n,_,h1⟩ := (show ObjOk X.prog X.w H s.heap a (.lst xs) from I.hok a _ ea)
   exact PySem.W.kia_one PySem.W.kitx_list I.kIn ⟨_,h1,rfl⟩ e (fun z => nomatch z) h
 | @frz a ob xs ea =>
   cases (show u = Value.ref a from rx)
   obtain ⟨_,_,_,n,_,h1⟩ := (show ObjOk X.prog X.w H s.heap a (.frz ob (.lst xs)) from I.hok a _ ea)
   exact PySem.W.kia_one PySem.W.kitx_list I.kIn ⟨_,h1,rfl⟩ e (fun z => nomatch z) h
 | @tup a xs ea =>
   cases (show u = Value.ref a from rx)
   obtain ⟨_,_,_,p⟩ := (show ObjOk X.prog X.w H s.heap a (.tup xs) from I.hok a _ ea)
   obtain ⟨o,h1,h2,_⟩ := p
   exact PySem.W.kia_one PySem.W.kitx_tuple I.kIn ⟨o,h1,h2⟩ e (fun z => nomatch z) h
 | @dK a kvs ea =>
   cases (show u = Value.ref a from rx)
   obtain ⟨_,_,vs,_,p⟩ := (show ObjOk X.prog X.w H s.heap a (.dK kvs) from I.hok a _ ea)
   obtain ⟨o,es,ep,h1,h2,_⟩ := p
   exact PySem.W.kia_one PySem.W.kitx_dict I.kIn ⟨o,h1,h2.1⟩ e (fun z => nomatch z) h
 | @dT a kvs ea =>
   cases (show u = Value.ref a from rx)
   obtain ⟨_,_,xs,_,o,es,ep,h1,h2,_⟩ := (show ObjOk X.prog X.w H s.heap a (.dT kvs) from I.hok a _ ea)
   exact PySem.W.kia_one PySem.W.kitx_dict I.kIn ⟨o,h1,h2.1⟩ e (fun z => nomatch z) h
 | @ins a C dx fs ea cl ha hn htk hm =>
   cases (show u = Value.ref a from rx)
   obtain ⟨mA,O,_⟩ := ins_get I.hok ea
   obtain ⟨od,J,_⟩ := O.look
   exact PySem.W.kia_one (PySem.W.kitx_own (cl.get _) cl.hd ha hn htk hm) I.kIn J e (fun z => nomatch z) h
end
end L2

namespace L2
open PySem PySem.Spec PyProof.Rows

structure Room (k : Nat) (A : Around) : Prop where
 hd : A.handled = none
 dp : A.depth + 3 * k + 5 < recursionLimit
 un : A.units + 16 * k + 200 < cLine
theorem Room.mono {j k : Nat} {A : Around} (r : Room k A) (h : j ≤ k) : Room j A := ⟨r.hd,by have := r.dp; omega,by have := r.un; omega⟩
theorem Room.deeper {k : Nat} {A : Around} (r : Room (k + 1) A) (env : Env) : Room k (A.deeper env) :=
 ⟨r.hd,by have := r.dp; show A.depth + 1 + 3 * k + 5 < _; omega,by have := r.un; show A.units + 3 + 16 * k + 200 < _; omega⟩
theorem make_depth {A : Around} {C : Addr} {us : List Value} {kw : List (Str × Value)} : (A.under (.builtin "type.__call__" ⟨.ref C :: us,kw⟩)).depth = A.depth + 1 := by
 first | rfl | simp [Around.under,Code.weight,Code.isCreation,Code.isGuard,Code.isCaller,Code.frames,Code.isFrame,guardIds]
theorem make_units {A : Around} {C : Addr} {us : List Value} {kw : List (Str × Value)} : (A.under (.builtin "type.__call__" ⟨.ref C :: us,kw⟩)).units = A.units + 1 := by
 first | rfl | simp [Around.under,Code.cUnits,Code.frames,Code.isFrame]
theorem Room.make {k : Nat} {A : Around} (r : Room (k + 1) A) (C : Addr) (us : List Value) (kw : List (Str × Value)) : Room k (A.under (.builtin "type.__call__" ⟨.ref C :: us,kw⟩)) :=
 ⟨r.hd,by have := r.dp; rw [make_depth]; omega,by have := r.un; rw [make_units]; omega⟩
theorem Room.depth {k : Nat} {A : Around} (r : Room k A) : A.depth < recursionLimit := by have := r.dp; omega
def tNil : TA := fun _ H Q => Q [] H
def tCons (ta : TE) (tr : TA) : TA := fun σ H Q => ta σ H fun x H1 => tr σ H1 fun xs H2 => Q (x :: xs) H2
section
variable {X : Cx} {e : Expr} {es : List Expr} {te : TE} {t : TA} {pos : Pos}
theorem pa_nil : PA X [] tNil := fun _ _ _ _ H Q I h => Calls.spliced_nil ⟨[],H,I,.nil,h⟩
theorem pa_cons (ha : PE X e te) (hr : PA X es t) (hs : starEach (e :: es) X.env = (false,eval e X.env) :: starEach es X.env := by rfl) : PA X (e :: es) (tCons te t) := by
 intro pos pins s σ H Q I h
 rw [hs]
 show wpAny _ _ (spliced ((false,eval e X.env) :: backTo pos (starEach es X.env))) _ _ s
 refine Calls.spliced_cons (thn (ha pins s σ H _ I h) fun u s1 ⟨x,H1,I1,r1,q1⟩ => ?_)
 exact thn (hr pos pins s1 σ H1 _ I1 q1) fun us s2 ⟨xs,H2,I2,r2,q2⟩ => ⟨x :: xs,H2,I2,.cons r1 r2,q2⟩

def tTup (t : TA) : TE := fun σ H Q => t σ H fun xs H1 => xs.length ≤ sizeLine ∧ ∀ p,H1 p = none → Q (.ref p) (upd H1 p (.tup xs))
def tLst (t : TA) : TE := fun σ H Q => t σ H fun xs H1 => xs.length ≤ sizeLine ∧ ∀ p,H1 p = none → Q (.ref p) (upd H1 p (.lst xs))
theorem pe_tup {x1} (h : PA X es t) : PE X (.Tuple es x1 pos) (tTup t) := by
 intro pins s σ H Q I hq
 refine wpAny_Tuple_spliced (thn (h pos pins s σ H _ I hq) fun us s1 ⟨xs,H1,I1,r,z,q⟩ => ⟨by rw [← r.length]; exact z,?_⟩)
 have hf : H1 s1.heap.objs.size = none := I1.hok.fresh (Nat.le_refl _)
 refine ⟨.ref s1.heap.objs.size,upd H1 s1.heap.objs.size (.tup xs),I1.laid (t' := s1.toks) (fun b u e => Heap.get?_push_of_some _ e) (Nat.le_refl _) ?_,rfl,q _ hf⟩
 exact ⟨z,us,r,⟨_,Heap.get?_push_size _ rfl,rfl,_,rfl⟩⟩
theorem pe_lst (h : PA X es t) : PE X (.List es pos) (tLst t) := by
 intro pins s σ H Q I hq
 refine wpAny_List_spliced (thn (h pos pins s σ H _ I hq) fun us s1 ⟨xs,H1,I1,r,z,q⟩ => ⟨by rw [← r.length]; exact z,?_⟩)
 have hf : H1 s1.heap.objs.size = none := I1.hok.fresh (Nat.le_refl _)
 refine ⟨.ref s1.heap.objs.size,upd H1 s1.heap.objs.size (.lst xs),I1.laid (t' := s1.toks) (fun b u e => Heap.get?_push_of_some _ e) (Nat.le_refl _) ?_,rfl,q _ hf⟩
 exact ⟨z,us,0,r,Heap.get?_push_size _ rfl⟩
end

abbrev Sp := List V → Hp → VK → XK → Prop
abbrev CXT := List Env → Hp → Shared → XK → Value → Shared → Prop

structure Env0 (P : Program) (w : World) (K : PySem.W.Frag) (mg : Str → Option Value) (base : Heap) (A : Around) (outer : List Env) (s : Shared) (H : Hp) : Prop where
 frames : A.frames = some outer
 mod : Mod K mg base
 bs : ∀ b o,base.get? b = some o → s.heap.get? b = some o ∧ H b = none
 bsz : base.objs.size ≤ s.heap.objs.size
 funs : s.heap.FunFrames base outer
 frf : ∀ b ∈ frs outer,H b = none
 hok : HOk P w H s.heap
 bare : AllBare s.gens
def CE (outer : List Env) (P : Program) (w : World) (H : Hp) (s : Shared) (Q : VK) (u : Value) (s' : Shared) : Prop :=
 ∃ v H',s'.os = s.os ∧ AllBare s'.gens ∧ Un (frs outer) [] H H' s.heap s'.heap ∧ HOk P w H' s'.heap ∧ RelV v u ∧ Q v H'
def CR (CX : CXT) (outer : List Env) (P : Program) (w : World) (H : Hp) (s : Shared) (Q : VK) (E : XK) (r : Result) (s' : Shared) : Prop :=
 match r with
 | .ok (.ret u) => CE outer P w H s Q u s'
 | .ok _ => False
 | .error e => CX outer H s E e s'
structure FnOk (P : Program) (w : World) (K : PySem.W.Frag) (mg : Str → Option Value) (base : Heap) (CX : CXT) (k : Nat) (f : Addr) (fd : FuncData) (ps : List Str) (sp : Sp) : Prop where
 len : ∀ vs H Q E,sp vs H Q E → vs.length = ps.length
 run : ∀ (A : Around) (outer : List Env) (s : Shared) (H : Hp) (args : Args) (us : List Value) (vs : List V) (Q : VK) (E : XK),Room k A → Env0 P w K mg base A outer s H → BindsTo s fd args (ps.zip us) → Vals vs us → sp vs H Q E →
   codeAny (model P w) A (.call (.ref f) args) (CR CX outer P w H s Q E) s
theorem FnOk.mono {P : Program} {w : World} {K : PySem.W.Frag} {mg : Str → Option Value} {base : Heap} {CX : CXT} {j k : Nat} {f : Addr} {fd : FuncData} {ps : List Str} {sp : Sp} (F : FnOk P w K mg base CX j f fd ps sp) (h : j ≤ k) :
   FnOk P w K mg base CX k f fd ps sp := ⟨F.len,fun A outer s H args us vs Q E hr => F.run A outer s H args us vs Q E (hr.mono h)⟩
theorem FnOk.imp {P : Program} {w : World} {K : PySem.W.Frag} {mg : Str → Option Value} {base : Heap} {CX : CXT} {k : Nat} {f : Addr} {fd : FuncData} {ps : List Str} {sp sp' : Sp} (F : FnOk P w K mg base CX k f fd ps sp)
   (h : ∀ vs H Q E,sp' vs H Q E → sp vs H Q E) : FnOk P w K mg base CX k f fd ps sp' :=
 ⟨fun vs H Q E q => F.len vs H Q E (h _ _ _ _ q),fun A outer s H args us vs Q E hr he hb hv hs => F.run A outer s H args us vs Q E hr he hb hv (h _ _ _ _ hs)⟩

theorem Env0.make {P : Program} {w : World} {K : PySem.W.Frag} {mg : Str → Option Value} {base : Heap} {A : Around} {outer : List Env} {s : Shared} {H : Hp} (e : Env0 P w K mg base A outer s H) (C : Addr) (us : List Value) (kw : List (Str × Value)) :
   Env0 P w K mg base (A.under (.builtin "type.__call__" ⟨.ref C :: us,kw⟩)) outer s H := ⟨by first | exact e.frames | (simpa [Around.under,Code.envs,Code.isFrame,pushEnvs] using e.frames),e.mod,e.bs,e.bsz,e.funs,e.frf,e.hok,e.bare⟩
section
variable {X : Cx} {pins : List (Addr × Obj)} {σ : St} {H : Hp} {s s' : Shared}
theorem Inv.env0 (I : Inv X pins σ H s) : Env0 X.prog X.w X.K X.mg X.base X.A X.stack s H :=
 ⟨I.ok.frames,I.ok.mod,I.bs,Nat.le_trans I.ok.bsz I.sz,I.stack,I.stkFree,I.hok,I.bare⟩
theorem Inv.after {Q : VK} {u : Value} (I : Inv X pins σ H s) (h : CE X.stack X.prog X.w H s Q u s') : EP X pins σ Q u s' := by
 obtain ⟨v,H',os,bare,un,hok,r,q⟩ := h
 obtain ⟨hh,g,d,t,os'⟩ := s'
 obtain rfl : os' = s.os := os
 exact ⟨v,H',I.call (h' := hh) (g' := g) (d' := d) (t' := t) (ch := []) un hok bare (fun b z => absurd z (by simp)),r,q⟩
end

def tCall (sp : Sp) (dvs : List V) (E : XK) (t : TA) : TE := fun σ H Q => t σ H fun vs H1 => sp (vs ++ dvs) H1 Q E
def tMeth (C : Addr) (m : Str) (sp : Sp) (dvs : List V) (E : XK) (ta : TE) (t : TA) : TE := fun σ H Q => ta σ H fun x H1 => ∃ a dx fs,x = .ref a ∧ H1 a = some (.ins C dx fs) ∧ fs.lookup m = none ∧
 t σ H1 fun vs H2 => sp (x :: (vs ++ dvs)) H2 Q E
def tMake (C : Addr) (sp : Sp) (dvs : List V) (E : XK) (t : TA) : TE := fun σ H Q => t σ H fun vs H1 => ∀ x dx,H1 x = none → H1 dx = none → dx ≠ x →
 sp (.ref x :: (vs ++ dvs)) (upd (upd H1 dx (.own x)) x (.ins C dx [])) (fun v H2 => v = .non ∧ Q (.ref x) H2) E

def Binds (K : PySem.W.Frag) (fd : FuncData) (ps : List Str) (ds : List Value) : Prop :=
 ∀ (s : Shared) (us : List Value),K.In s.heap → (us ++ ds).length = ps.length → BindsTo s fd ⟨us,[]⟩ (ps.zip (us ++ ds))
theorem Binds.all {K : PySem.W.Frag} {fd : FuncData} {ps : List Str} (h : ∀ us : List Value,us.length = ps.length → bindArgs fd ⟨us,[]⟩ = pure (ps.zip us)) : Binds K fd ps [] := fun s us _ hl => by
 rw [List.append_nil] at hl ⊢
 exact .of_eq (h us hl)

def Passes (CX : CXT) (X : Cx) (E : XK) : Prop := ∀ (pins : List (Addr × Obj)) (σ : St) (H : Hp) (s : Shared) (e : Value) (s' : Shared),Inv X pins σ H s → CX X.stack H s E e s' → X.xe e s'

section
variable {X : Cx} {CX : CXT} {k : Nat} {f C : Addr} {fd : FuncData} {ps : List Str} {sp : Sp} {dvs : List V} {ds : List Value} {E : XK} {x m : Str} {p pos apos : Pos} {e o : Expr} {es : List Expr} {ta : TE} {t : TA}

theorem run_fn {pins : List (Addr × Obj)} {σ : St} {H : Hp} {s : Shared} {Q : VK} {us : List Value} {vs : List V} (F : FnOk X.prog X.w X.K X.mg X.base CX k f fd ps sp) (hr : Room k X.A) (hb : Binds X.K fd ps ds) (hd : Vals dvs ds) (hx : Passes CX X E)
   (I : Inv X pins σ H s) (r : Vals vs us) (h : sp (vs ++ dvs) H Q E) : wpAny (model X.prog X.w) X.A (call (.ref f) us) (EP X pins σ Q) X.xe s := by
 have r2 : Vals (vs ++ dvs) (us ++ ds) := r.append hd
 have hl : (us ++ ds).length = ps.length := by rw [← r2.length]; exact F.len _ _ _ _ h
 refine wpAny_call (codeAny_mono (F.run X.A X.stack s H ⟨us,[]⟩ (us ++ ds) (vs ++ dvs) Q E hr I.env0 (hb s us I.kIn hl) r2 h) fun r s' hq => ?_)
 cases r with
 | error e => exact hx pins σ H s e s' I hq
 | ok fl =>
   cases fl with
   | ret u => exact I.after hq
   | next => exact False.elim hq
   | brk => exact False.elim hq
   | cont => exact False.elim hq

theorem pe_call (F : FnOk X.prog X.w X.K X.mg X.base CX k f fd ps sp) (hr : Room k X.A) (hg : Gl X x) (hm : X.mg x = some (.ref f)) (hk : PySem.W.keepIn X.K (.ref f) = true) (hb : Binds X.K fd ps ds) (hd : Vals dvs ds) (hx : Passes CX X E)
   (ha : PA X (e :: es) t) (hdb : (x == ("__debug__" : Str)) = false := by decide) (he : starEach (e :: es) X.env = (false,eval e X.env) :: starEach es X.env := by rfl) (hpl : (backTo pos (starEach es X.env)).any (·.1) = false := by rfl) :
   PE X (.Call (.Name x p) (e :: es) [] pos) (tCall sp dvs E t) := by
 intro pins s σ H Q I h
 refine wpAny_Call_Name_kw (ld_glob I hg hm ?_ hdb)
 refine PySem.W.callWith_K (h₀ := X.base) I.ok.mod.kin hk (thn (ha pos pins s σ H _ I h) fun us s1 ⟨vs,H1,I1,r,q⟩ => ⟨I1.kIn,?_⟩) he hpl
 exact run_fn F hr hb hd hx I1 r q
theorem pe_meth {pl : Sem Bool} (he : PE X o ta) (c : Cls X.K C) (hm : Meth X.K C m f) (F : FnOk X.prog X.w X.K X.mg X.base CX k f fd ps sp) (hr : Room k X.A) (hb : Binds X.K fd ps ds) (hd : Vals dvs ds) (hx : Passes CX X E) (ha : PA X (e :: es) t)
   (hst : starEach (e :: es) X.env = (false,eval e X.env) :: starEach es X.env := by rfl) (hpl : (backTo pos (starEach es X.env)).any (·.1) = false := by rfl)
   (ht : eval (.Call (.Attribute o m apos) (e :: es) [] pos) X.env = (do
     let ov ← eval o X.env
     standAt apos.atName
     let (f,first) ← holding [ov] (getMethod ov m pl)
     callWith pos f first (backTo pos (starEach (e :: es) X.env)) (backToKw pos (keywordEach [] X.env))) := by rfl) :
   PE X (.Call (.Attribute o m apos) (e :: es) [] pos) (tMeth C m sp dvs E ta t) := by
 intro pins s σ H Q I h
 refine PySem.W.methodCall_KW (pl := pl) (thn (he pins s σ H _ I h) fun u s1 ⟨x,H1,I1,rx,a,dx,fs,ex,ea,l,q⟩ => ?_) ht
 subst ex
 obtain rfl : u = Value.ref a := rx
 refine getmeth_ok I1 ea c hm l ?_
 refine PySem.W.callWith_K (first := [.ref a]) (h₀ := X.base) I.ok.mod.kin hm.kp (thn (ha pos pins s1 σ H1 _ I1 q) fun us s2 ⟨vs,H2,I2,r,q2⟩ => ⟨I2.kIn,?_⟩) hst hpl
 exact run_fn (us := .ref a :: us) (vs := .ref a :: vs) F hr hb hd hx I2 (.cons rfl r) q2
structure Mk (K : PySem.W.Frag) (C f : Addr) : Prop where
 makes : PySem.W.makesIn K C = true
 init : PySem.W.findIn K (.ref C) "__init__" = some (some (.ref f))
 fn : PySem.W.isFn K (.ref f) = true
 kp : PySem.W.keepIn K (.ref C) = true

theorem run_make {pins : List (Addr × Obj)} {σ : St} {H : Hp} {s : Shared} {Q : VK} {us : List Value} {vs : List V} (M : Mk X.K C f) (F : FnOk X.prog X.w X.K X.mg X.base CX k f fd ps sp) (hr : Room (k + 1) X.A) (hb : Binds X.K fd ps ds) (hd : Vals dvs ds)
   (hx : Passes CX X E) (I : Inv X pins σ H s) (r : Vals vs us)
   (h : ∀ x dx,H x = none → H dx = none → dx ≠ x → sp (.ref x :: (vs ++ dvs)) (upd (upd H dx (.own x)) x (.ins C dx [])) (fun v H2 => v = .non ∧ Q (.ref x) H2) E) :
   wpAny (model X.prog X.w) X.A (call (.ref C) us) (EP X pins σ Q) X.xe s := by
 have hq := h (s.heap.objs.size + 1) s.heap.objs.size (I.hok.fresh (Nat.le_succ _)) (I.hok.fresh (Nat.le_refl _)) (Nat.ne_of_lt (Nat.lt_succ_self _))
 have I2 := Inv.made (C := C) I
 have r2 : Vals (V.ref (s.heap.objs.size + 1) :: (vs ++ dvs)) (Value.ref (s.heap.objs.size + 1) :: (us ++ ds)) := .cons rfl (r.append hd)
 have hl : (Value.ref (s.heap.objs.size + 1) :: us ++ ds).length = ps.length := by
   have e := r2.length
   rw [F.len _ _ _ _ hq] at e
   exact e.symm
 refine wpAny_call (make_map (f := f) I.kIn M.makes M.init (beq_iff_eq.mp M.fn) (codeAny_mono (F.run _ X.stack _ _ ⟨Value.ref (s.heap.objs.size + 1) :: us,[]⟩ (Value.ref (s.heap.objs.size + 1) :: (us ++ ds)) _ _ E (hr.make C us [])
   (I2.env0.make C us []) (hb _ (Value.ref (s.heap.objs.size + 1) :: us) I2.kIn hl) r2 hq) fun r s' hq' => ?_))
 cases r with
 | error e => exact hx pins σ _ _ e s' I2 hq'
 | ok fl =>
   cases fl with
   | ret u =>
     obtain ⟨v,H',I3,rv,ev,q3⟩ := I2.after hq'
     subst ev
     exact ⟨rv,⟨V.ref (s.heap.objs.size + 1),H',I3,rfl,q3⟩⟩
   | next => exact False.elim hq'
   | brk => exact False.elim hq'
   | cont => exact False.elim hq'
theorem pe_make0 (M : Mk X.K C f) (F : FnOk X.prog X.w X.K X.mg X.base CX k f fd ps sp) (hr : Room (k + 1) X.A) (hg : Gl X x) (hm : X.mg x = some (.ref C)) (hb : Binds X.K fd ps ds) (hd : Vals dvs ds) (hx : Passes CX X E)
   (hdb : (x == ("__debug__" : Str)) = false := by decide) : PE X (.Call (.Name x p) [] [] pos) (tMake C sp dvs E tNil) := by
 intro pins s σ H Q I h
 refine wpAny_Call_Name_kw (ld_glob I hg hm ?_ hdb)
 exact PySem.W.callWith_K0 I.kIn M.kp (run_make (us := []) M F hr hb hd hx I .nil h)
end


structure FnScope (N P : List Str) (sc : Scope) : Prop where
 kind : sc.kind = .function
 co : sc.isCoroutine = false
 gen : sc.isGenerator = false
 nd : N.Nodup
 pre : N.take P.length = P
 par : ∀ x ∈ P,sc.names.lookup x = some .local ∨ sc.names.lookup x = some .cell
 nofree : ∀ y ∈ sc.names,y.2 ≠ .free

theorem bindL_out {kindOf : Str → Option NameKind} {x : Str} : ∀ {binds : List (Str × Value)} {m : Str → Option Value},(∀ v,(x,v) ∉ binds) → bindL kindOf binds m x = m x
 | [],_,_ => rfl
 | (n,v) :: r,m,h => by
   unfold bindL
   rw [bindL_out fun w hw => h w (List.mem_cons_of_mem _ hw)]
   split
   · have : x ≠ n := by rintro rfl; exact h v List.mem_cons_self
     simp [this]
   · rfl
theorem bindC_out {kindOf : Str → Option NameKind} {x : Str} : ∀ {binds : List (Str × Value)} {m : Str → Option Value},(∀ v,(x,v) ∉ binds) → bindC kindOf binds m x = m x
 | [],_,_ => rfl
 | (n,v) :: r,m,h => by
   unfold bindC
   rw [bindC_out fun w hw => h w (List.mem_cons_of_mem _ hw)]
   split
   · rfl
   · have : x ≠ n := by rintro rfl; exact h v List.mem_cons_self
     simp [this]
theorem bindL_get {kindOf : Str → Option NameKind} {x : Str} {v : Value} : ∀ {P : List Str} {vs : List Value} {i : Nat} {m : Str → Option Value},P.Nodup → P[i]? = some x → vs[i]? = some v → kindOf x = some .local →
   bindL kindOf (P.zip vs) m x = some v
 | [],_,_,_,_,h,_,_ => by simp at h
 | _ :: _,[],_,_,_,_,h,_ => by simp at h
 | p :: P,w :: vs,0,m,nd,h1,h2,hk => by
   simp at h1 h2; subst h1; subst h2
   show bindL kindOf ((p,w) :: P.zip vs) m p = _
   unfold bindL
   rw [bindL_out fun v hv => (List.nodup_cons.mp nd).1 (List.of_mem_zip hv).1,if_pos hk]
   simp
 | p :: P,w :: vs,i + 1,m,nd,h1,h2,hk => by
   show bindL kindOf ((p,w) :: P.zip vs) m x = _
   unfold bindL
   exact bindL_get (i := i) (List.nodup_cons.mp nd).2 (by simpa using h1) (by simpa using h2) hk
theorem bindC_get {kindOf : Str → Option NameKind} {x : Str} {v : Value} : ∀ {P : List Str} {vs : List Value} {i : Nat} {m : Str → Option Value},P.Nodup → P[i]? = some x → vs[i]? = some v → kindOf x ≠ some .local →
   bindC kindOf (P.zip vs) m x = some v
 | [],_,_,_,_,h,_,_ => by simp at h
 | _ :: _,[],_,_,_,_,h,_ => by simp at h
 | p :: P,w :: vs,0,m,nd,h1,h2,hk => by
   simp at h1 h2; subst h1; subst h2
   show bindC kindOf ((p,w) :: P.zip vs) m p = _
   unfold bindC
   rw [bindC_out fun v hv => (List.nodup_cons.mp nd).1 (List.of_mem_zip hv).1,if_neg hk]
   simp
 | p :: P,w :: vs,i + 1,m,nd,h1,h2,hk => by
   show bindC kindOf ((p,w) :: P.zip vs) m x = _
   unfold bindC
   exact bindC_get (i := i) (List.nodup_cons.mp nd).2 (by simpa using h1) (by simpa using h2) hk

def start (N : List Str) (vs : List V) : St := vs.map some ++ List.replicate (N.length - vs.length) none

def cxOf (CX : CXT) (P : Program) (w : World) (K : PySem.W.Frag) (mg : Str → Option Value) (base : Heap) (N : List Str) (qual : Str) (scope : Scope) (f : Addr) (cd : Value) (A : Around) (outer : List Env) (s : Shared) (H : Hp) (E : XK) : Cx where
 prog := P
 w := w
 K := K
 mg := mg
 base := base
 A := A.deeper (envOfC qual scope s.heap.objs.size f cd)
 N := N
 s₀ := s
 H₀ := H
 env := envOfC qual scope s.heap.objs.size f cd
 outer := outer
 stack := envOfC qual scope s.heap.objs.size f cd :: outer
 ex := []
 calm := true
 fn := fun _ => true
 pn := []
 xe := fun e s' => wpAny (model P w) (A.deeper (envOfC qual scope s.heap.objs.size f cd)) (leaving (envOfC qual scope s.heap.objs.size f cd) e) (fun _ s'' => CX outer H s E e s'') (fun e' s'' => CX outer H s E e' s'') s'

theorem cell_has {sc : Scope} {n : Nat} {x : Str} (h : sc.names.lookup x = some .cell) : ∃ c,(cellsFrom n sc.names []).lookup x = some c := by
 have q := PySem.W.cellsFrom_some sc.names n [] (.inl h)
 exact Option.isSome_iff_exists.mp q

theorem inv_start {CX : CXT} {P : Program} {w : World} {K : PySem.W.Frag} {mg : Str → Option Value} {base : Heap} {N ps : List Str} {qual : Str} {scope : Scope} {f : Addr} {cd : Value} {A : Around} {outer : List Env} {s s1 : Shared} {H : Hp} {E : XK} {us : List Value} {vs : List V}
   (S : FnScope N ps scope) (hd : A.handled = none) (e0 : Env0 P w K mg base A outer s H) (hl : vs.length = ps.length) (r : Vals vs us)
   (x : InCallC s s.heap.objs.size (bindL (envOfC qual scope s.heap.objs.size f cd).kindOf (ps.zip us) fun _ => none) (cellsFrom (s.heap.objs.size + 1) scope.names []) (bindC (envOfC qual scope s.heap.objs.size f cd).kindOf (ps.zip us) fun _ => none) s1) :
   Inv (cxOf CX P w K mg base N qual scope f cd A outer s H E) [] (start N vs) H s1 := by
 have hpl : ps.length ≤ N.length := by have := congrArg List.length S.pre; rw [List.length_take] at this; omega
 obtain ⟨h1,tk,rfl,hk⟩ := x.done
 have noA : ∀ b : Addr,b ∉ (cxOf CX P w K mg base N qual scope f cd A outer s H E).ex := fun b z => absurd (show b ∈ ([] : List Addr) from z) (by simp)
 refine ⟨⟨e0.mod,S.kind,rfl,rfl,Nat.le_refl _,fun y z c h1 h2 => ?_,fun y hy => ?_,fun y c _ h => ?_,fun _ => hd,Around.frames_deeper e0.frames,.inr ⟨rfl,rfl⟩,fun b z => absurd z (noA b),e0.bs,e0.bsz,fun b _ _ => noA b,fun b z => absurd z (noA b),e0.funs,e0.frf⟩,
   rfl,e0.bare,Un.kept hk,⟨_,x.toInCall.ns,fun i y v h1 h2 h3 => ?_⟩,fun y c h => ⟨_,x.cell y c h⟩,e0.hok.fresh (Nat.le_refl _),fun y c h => ?_,fun p hp => absurd (show p ∈ ([] : List (Addr × Obj)) from hp) (by simp),e0.hok.kept hk,?_⟩
 · exact name_of_addr x.apart (PySem.mem_of_lookup h1) (PySem.mem_of_lookup h2)
 · have hy : scope.names.lookup y = some .cell ∨ scope.names.lookup y = some .free := hy
   rcases hy with hy | hy
   · exact cell_has hy
   · exact absurd rfl (S.nofree _ (PySem.mem_of_lookup hy))
 · exact Nat.le_of_lt (x.above y c (PySem.mem_of_lookup h))
 · have hi : i < vs.length := by
     unfold start at h2
     by_cases hi : i < vs.length
     · exact hi
     · rw [List.getElem?_append_right (by simpa using hi)] at h2
       rw [List.getElem?_replicate] at h2
       split at h2 <;> cases h2
   have ha : vs[i]? = some v := by
     unfold start at h2
     rw [List.getElem?_append_left (by simpa using hi),List.getElem?_map] at h2
     cases e : vs[i]? with
     | none => rw [e] at h2; cases h2
     | some a => rw [e] at h2; cases h2; rfl
   obtain ⟨u,hu,rv⟩ := r.get ha
   have hp : ps[i]? = some y := by
     rw [← S.pre,List.getElem?_take_of_lt (by omega)]; exact h1
   have ndP : ps.Nodup := by rw [← S.pre]; exact S.nd.sublist (List.take_sublist _ _)
   refine ⟨u,rv,?_⟩
   rcases S.par y (List.mem_of_getElem? hp) with k | k
   · exact .inl ⟨k,bindL_get ndP hp hu k⟩
   · obtain ⟨c,e⟩ := cell_has (n := s.heap.objs.size + 1) k
     refine .inr ⟨.inl k,c,e,?_⟩
     have q := x.cell y c e
     rw [bindC_get ndP hp hu (by show scope.names.lookup y ≠ _; rw [k]; decide)] at q
     exact q
 · exact e0.hok.fresh (Nat.le_of_lt (x.above y c (PySem.mem_of_lookup h)))
 · unfold start
   show _ = N.length
   rw [List.length_append,List.length_map,List.length_replicate]
   omega

theorem fn_of {CX : CXT} {P : Program} {w : World} {K : PySem.W.Frag} {mg : Str → Option Value} {base : Heap} {k : Nat} {f : Addr} {name qual : Str} {params : Arguments} {body : List Stmt} {scope : Scope} {dV kV doc pm cdv ct oc : Value} {an od : Option Addr}
   {osl : Array (Option Value)} {N ps : List Str} {sp : Sp} (lk : K.lookup f = some ⟨oc,od,.func (PySem.W.fnOf name qual params body scope dV kV doc pm an cdv ct),osl⟩) (hcd : PySem.W.codeIn K cdv qual = true) (S : FnScope N ps scope)
   (len : ∀ vs H Q E,sp vs H Q E → vs.length = ps.length)
   (hbody : ∀ (A : Around) (outer : List Env) (s : Shared) (H : Hp) (vs : List V) (Q : VK) (E : XK),Room k (A.deeper (envOfC qual scope s.heap.objs.size f cdv)) → sp vs H Q E →
     ∃ t,PSs (cxOf CX P w K mg base N qual scope f cdv A outer s H E) body t ∧ t { nx := fun _ H' => Q .non H',rt := Q } (start N vs) H) :
   FnOk P w K mg base CX (k + 1) f (PySem.W.fnOf name qual params body scope dV kV doc pm an cdv ct) ps sp := by
 refine ⟨len,fun A outer s H args us vs Q E hr e0 hb r hsp => ?_⟩
 have hl := len _ _ _ _ hsp
 have KX : K.In s.heap := e0.mod.kin.keeps fun b o e => (e0.bs b o e).1
 have lim : s.heap.NoLimit := e0.mod.nolimit.keeps fun b o e => (e0.bs b o e).1
 have hkind : ∀ y ∈ ps.zip us,scope.names.lookup y.1 = some .local ∨ (scope.names.lookup y.1 = some .cell ∧ ((cellsFrom (s.heap.objs.size + 1) scope.names []).lookup y.1).isSome = true) := fun ⟨n,v⟩ hy => by
   rcases S.par n (List.of_mem_zip hy).1 with q | q
   · exact .inl q
   · exact .inr ⟨q,PySem.W.cellsFrom_some _ _ _ (.inl q)⟩
 refine codeAny_call_function hr.depth (KX _ _ lk) rfl S.co S.gen rfl (PySem.W.codeRec_of KX hcd) (hb _ _ _ _ ?_)
 refine wpAny_newFunctionEnv_cells S.kind hkind fun env he s1 x => ?_
 subst he
 refine ⟨lim.keeps x.toInCall.keep,codeAny_func ?_⟩
 obtain ⟨t,ht,hq⟩ := hbody A outer s H vs Q E (hr.deeper _) hsp
 have I : Inv (cxOf CX P w K mg base N qual scope f cdv A outer s H E) [] (start N vs) H s1 := inv_start S hr.hd e0 hl r x
 refine wpAny_mono (ht [] s1 (start N vs) H _ I hq) (fun fl s' hs => ?_) fun e s' hs => hs
 have fin : ∀ {σ' : St} {H' : Hp} {v : V} {u : Value},Inv (cxOf CX P w K mg base N qual scope f cdv A outer s H E) [] σ' H' s' → RelV v u → Q v H' → CE outer P w H s Q u s' :=
   fun {σ' H' v u} J rv q => ⟨v,H',J.os,J.bare,J.base,J.hok,rv,q⟩
 cases fl with
 | ret u =>
   obtain ⟨v,σ',H',J,rv,q⟩ := hs
   exact fin J rv q
 | next =>
   obtain ⟨σ',H',J,q⟩ := hs
   exact fin (v := V.non) (u := Value.none) J rfl q
 | brk =>
   obtain ⟨_,_,_,q⟩ := hs
   exact False.elim q
 | cont =>
   obtain ⟨_,_,_,q⟩ := hs
   exact False.elim q
end L2

namespace L2
open PySem PySem.Spec PyProof.Rows
section
variable {X : Cx} {x : Str} {p pos : Pos} {e : Expr} {es : List Expr} {t : TA} {id T : String} {r : List V → Hp → VK → Prop}

def tCB (r : List V → Hp → VK → Prop) (t : TA) : TE := fun σ H Q => t σ H fun vs H1 => r vs H1 Q
theorem pe_callB (hc : CallR X (.builtin id) r) (hg : Gl X x) (hm : X.mg x = none) (hv : bootBuiltins x = some (.builtin id)) (ha : PA X (e :: es) t) (hn : x ≠ "__name__" := by decide) (hdb : (x == ("__debug__" : Str)) = false := by decide)
   (he : starEach (e :: es) X.env = (false,eval e X.env) :: starEach es X.env := by rfl) (hpl : (backTo pos (starEach es X.env)).any (·.1) = false := by rfl) : PE X (.Call (.Name x p) (e :: es) [] pos) (tCB r t) := by
 intro pins s σ H Q I h
 refine wpAny_Call_Name_kw (ld_blt I hg hm hv ?_ hn hdb)
 exact PyProof.Rows.callWith_builtin1 (thn (ha pos pins s σ H _ I h) fun us s1 ⟨vs,H1,I1,r1,q1⟩ => hc pins s1 σ H1 vs us Q I1 r1 q1) he hpl
end
end L2

namespace HT
open PySem PyProof.Rows

theorem eqAt_int (A : Around) (s : Shared) (a : Int) (t : Tok) (c : Int) (u : Tok) : ∃ e,SeqAt.EqAt A s (.int a t) (.int c u) e ∧ (e = true ↔ a = c) :=
 ⟨(a == c),SeqAt.EqAt.int_int a t c u,by simp⟩
theorem rcLt_int (A : Around) (s : Shared) (a : Int) (t : Tok) (c : Int) (u : Tok) (prog : Program) (w : World) (E : Value → Shared → Prop) (Q : Value → Shared → Prop) (h : Q (.bool (decide (a < c))) s) :
   wpAny (model prog w) A (richCompare .Lt (.int a t) (.int c u)) Q E s :=
 (PyProof.Rows.lt_int h : wpAny (model prog w) A (compareOp .Lt (.int a t) (.int c u)) Q E s)

section
open PySem.SeqAt
open PySem.AutoSeq1 (wpAny_loadPart')
open PySem.MeetsSeq PySem.MeetsSeq2 PySem.MeetsSeq3

end

section
variable {prog : Program} {w : World} {A : Around} {E : Value → Shared → Prop} {s : Shared}

theorem cat_tup {t b : Addr} {vs ws : List Value} {Q : Value → Shared → Prop} (ht : IsTup s.heap t vs.toArray) (hb : IsTup s.heap b ws.toArray) (hv : vs ≠ [])
   (h1 : ws = [] → Q (.ref t) s) (h2 : ws ≠ [] → Q (.ref s.heap.objs.size) { s with heap := s.heap.push { cls := .type "tuple",data := .seq (vs ++ ws).toArray } })
   (hsz : vs.length + ws.length ≤ sizeLine) : wpAny (model prog w) A (binaryOp .Add (.ref t) (.ref b)) Q E s := by
 obtain ⟨⟨cls,dd,data,sl⟩,ho,hc,n,hd⟩ := id ht
 obtain ⟨⟨cls2,dd2,data2,sl2⟩,ho2,hc2,n2,hd2⟩ := id hb
 simp only at hc hd hc2 hd2
 subst hc hd hc2 hd2
 have e : vs.toArray ++ ws.toArray = (vs ++ ws).toArray := by simp
 by_cases hw : ws = []
 · exact concat_meets ⟨_,ho,rfl⟩ ⟨_,ho2,rfl⟩ noFill_tuple_add seq_tuple_add PySem.F.slot_tuple_add PySem.F.entry_tuple_add (PySem.F.args_tuple_add_2 _ _)
     (tuple_addW1 t b vs.toArray ws.toArray n n2 dd dd2 sl sl2 (by simpa using hv) (by simp [hw])) ⟨ho,ho2,h1 hw⟩
 · refine concat_meets ⟨_,ho,rfl⟩ ⟨_,ho2,rfl⟩ noFill_tuple_add seq_tuple_add PySem.F.slot_tuple_add PySem.F.entry_tuple_add (PySem.F.args_tuple_add_2 _ _)
     (tuple_addW2 t b vs.toArray ws.toArray n n2 dd dd2 sl sl2 (by simpa using hv) (by simpa using hw) (by rw [List.size_toArray,List.size_toArray]; exact hsz)) ⟨ho,ho2,?_⟩
   rw [e]
   exact h2 hw

def sIx (n d : Nat) : Option Int → Nat
 | none => d
 | some v => if v < 0 then (v + (n : Int)).toNat else min v.toNat n
theorem sIx_le (n d : Nat) (hd : d ≤ n) (o : Option Int) : sIx n d o ≤ n := by
 cases o with
 | none => exact hd
 | some v =>
   show (if v < 0 then (v + (n : Int)).toNat else min v.toNat n) ≤ n
   by_cases hv : v < 0
   · rw [if_pos hv]; omega
   · rw [if_neg hv]; exact Nat.min_le_right _ _
theorem clip_eq (v : Int) (n d : Nat) : (if v < 0 then max (v + (n : Int)) 0 else min v (n : Int)) = ((sIx n d (some v) : Nat) : Int) := by
 show (if v < 0 then max (v + (n : Int)) 0 else min v (n : Int)) = (((if v < 0 then (v + (n : Int)).toNat else min v.toNat n) : Nat) : Int)
 by_cases hv : v < 0
 · simp only [if_pos hv]; omega
 · simp only [if_neg hv]; omega
theorem adjust_gen (lo hi : Option Int) (n : Nat) : Builtin.Slice.sliceAdjust lo hi 1 (n : Int) = (((sIx n 0 lo : Nat) : Int),((sIx n n hi : Nat) : Int)) := by
 have h1 : ¬ ((1 : Int) < 0) := by omega
 unfold Builtin.Slice.sliceAdjust
 simp only [h1,if_false]
 refine Prod.ext ?_ ?_
 · cases lo with
   | none => rfl
   | some v => exact clip_eq v n 0
 · cases hi with
   | none => rfl
   | some v => exact clip_eq v n n
theorem places_gen (i j : Nat) : Builtin.Slice.slicePlaces (i : Int) (j : Int) 1 = j - i := by
 unfold Builtin.Slice.slicePlaces
 have h1 : (1 : Int) > 0 := by omega
 simp only [h1,if_true,Int.ediv_one]
 split <;> omega
theorem slicePart_ {v : Value} {o : Option Int} {Q : Option Int → Shared → Prop} (p : IsPart v o) (h : Q o s) : wpAny (model prog w) A (Builtin.Slice.slicePartIndex v) Q E s := by
 cases p with
 | none => exact slicePart_none h
 | int i t => exact slicePart_int h
theorem sliceApplied_gen {sl : Addr} {vl vu : Value} {lo hi : Option Int} {n : Nat} {Q : Int × Int × Nat → Shared → Prop} (hs : s.heap.IsSliceOf sl vl vu .none) (pl : IsPart vl lo) (pu : IsPart vu hi)
   (h : Q (((sIx n 0 lo : Nat) : Int),1,sIx n n hi - sIx n 0 lo) s) : wpAny (model prog w) A (Builtin.Slice.sliceApplied (.ref sl) (pure (n : Int))) Q E s := by
 obtain ⟨os,hos,hcs,hds⟩ := id hs
 unfold Builtin.Slice.sliceApplied Builtin.Slice.sliceFields
 refine wpAny_bind (wpAny_bind (wpAny_field hos hds (x := vl) rfl (wpAny_bind (wpAny_field hos hds (x := vu) rfl (wpAny_bind (wpAny_field hos hds (x := .none) rfl (wpAny_pure ?_)))))))
 refine wpAny_bind (slicePart_none ?_)
 show wpAny _ _ (if ((1 : Int) == 0) = true then _ else _) _ _ s
 rw [if_neg (by decide)]
 refine wpAny_bind (slicePart_ pl (wpAny_bind (slicePart_ pu (wpAny_bind (wpAny_pure ?_)))))
 show wpAny _ _ (match Builtin.Slice.sliceAdjust lo hi 1 (n : Int) with | (lo,hi) => pure (lo,(1 : Int),Builtin.Slice.slicePlaces lo hi 1)) _ _ s
 rw [adjust_gen lo hi n]
 show wpAny _ _ (pure (((sIx n 0 lo : Nat) : Int),(1 : Int),Builtin.Slice.slicePlaces ((sIx n 0 lo : Nat) : Int) ((sIx n n hi : Nat) : Int) 1)) _ _ s
 rw [places_gen]
 exact wpAny_pure h
theorem pick_gen (xs : Array Value) (i k : Nat) : ((List.range k).filterMap fun (m : Nat) => xs[((i : Int) + (m : Int) * 1).toNat]?).toArray = ((xs.toList.drop i).take k).toArray := by
 have e : (fun (m : Nat) => xs[((i : Int) + (m : Int) * 1).toNat]?) = fun m => xs[i + m]? := by
   funext m
   have : ((i : Int) + (m : Int) * 1).toNat = i + m := by omega
   rw [this]
 rw [e]
 have := pick_run xs i k
 rw [List.filterMap_map] at this
 have e2 : ((fun x => xs[x]?) ∘ fun x => i + x) = fun m => xs[i + m]? := rfl
 rw [e2] at this
 rw [this]

theorem getItem_tuple_cut {t sl : Addr} {items : Array Value} {vl vu : Value} {lo hi : Option Int} {Q : Value → Shared → Prop} (ht : IsTup s.heap t items) (hs : s.heap.IsSliceOf sl vl vu .none) (pl : IsPart vl lo) (pu : IsPart vu hi)
   (hw : ¬ (sIx items.size 0 lo = 0 ∧ sIx items.size items.size hi = items.size))
   (h : Q (.ref s.heap.objs.size) { s with heap := s.heap.push { cls := .type "tuple",data := .seq ((items.toList.drop (sIx items.size 0 lo)).take (sIx items.size items.size hi - sIx items.size 0 lo)).toArray } })
   (hsz : items.size ≤ sizeLine) : wpAny (model prog w) A (getItem (.ref t) (.ref sl)) Q E s := by
 have htake : sizeOk (.seq ((items.toList.drop (sIx items.size 0 lo)).take (sIx items.size items.size hi - sIx items.size 0 lo)).toArray) := by
   show ((items.toList.drop (sIx items.size 0 lo)).take (sIx items.size items.size hi - sIx items.size 0 lo)).toArray.size ≤ sizeLine
   rw [List.size_toArray,List.length_take,List.length_drop,Array.length_toList]
   omega
 have hj : sIx items.size items.size hi ≤ items.size := sIx_le _ _ (Nat.le_refl _) hi
 obtain ⟨os,hos,hcs,hds⟩ := id hs
 have hTs : s.TypeIs (.ref sl) "slice" := ⟨os,hos,hcs⟩
 unfold getItem
 try with_reducible refine wpAny_holding ?_
 first | refine wpAny_bind (wpAny_pure ?_) | skip
 refine wpAny_bind (wpAny_sequenceKey ht.typeIs (by decide) ?_)
 refine wpAny_bind (wpAny_callSpecial?_slot (name := Str.ofString "__getitem__") ht.typeIs PyProof.Rows.slot_tuple_getitem
   (wpAny_call_entry PyProof.Rows.slot_tuple_getitem ht.typeIs entry_tuple_getitem ?_ (args_tuple_getitem _ _)))
 show wpAny _ _ (Builtin.Tuple.tupleItemsOf (.ref t) >>= _) _ _ s
 refine wpAny_bind (tupleItemsOf_ ht ?_)
 refine wpAny_bind (wpAny_typeOf hTs ?_)
 rw [if_pos (by decide)]
 refine wpAny_bind (sliceApplied_gen hs pl pu ?_)
 have hno : ¬ ((((sIx items.size 0 lo : Nat) : Int) == 0 && (1 : Int) == 1 && (sIx items.size items.size hi - sIx items.size 0 lo) == items.size) = true) := by
   intro q
   rw [Bool.and_eq_true,Bool.and_eq_true] at q
   have q1 : ((sIx items.size 0 lo : Nat) : Int) = 0 := eq_of_beq q.1.1
   have q2 : sIx items.size items.size hi - sIx items.size 0 lo = items.size := eq_of_beq q.2
   exact hw ⟨by omega,by omega⟩
 show wpAny _ _ (if (((sIx items.size 0 lo : Nat) : Int) == 0 && (1 : Int) == 1 && (sIx items.size items.size hi - sIx items.size 0 lo) == items.size) = true then _ else _) _ _ s
 rw [if_neg hno,pick_gen]
 first
   | exact wpAny_bind (m := Builtin.Tuple.tupleExact _) (wpAny_newObj_type (wpAny_pure ⟨_,rfl,wpAny_pure h⟩) htake)
   | exact wpAny_bind (m := Builtin.Tuple.tupleExact _) (wpAny_newObj_type (wpAny_bind (wpAny_pure (wpAny_pure ⟨_,rfl,wpAny_pure h⟩))) htake)
   | exact wpAny_bind (wpAny_bind (m := Builtin.Tuple.tupleExact _) (wpAny_newObj_type (wpAny_pure (wpAny_pure ⟨_,rfl,wpAny_pure h⟩)) htake))
   | exact wpAny_bind (wpAny_bind (m := Builtin.Tuple.tupleExact _) (wpAny_newObj_type (wpAny_pure ⟨_,rfl,wpAny_pure h⟩) htake))
end
end HT

namespace L2
open PySem PySem.Spec PyProof.Rows

abbrev TO := St → Hp → (Option Int → Hp → Prop) → Prop
def PO (X : Cx) (e : Option Expr) (t : TO) : Prop :=
 ∀ (pins : List (Addr × Obj)) (s : Shared) (σ : St) (H : Hp) (Q : Option Int → Hp → Prop),Inv X pins σ H s → t σ H Q →
   wpAny (model X.prog X.w) X.A (evalPart e X.env) (fun u s' => ∃ o H',Inv X pins σ H' s' ∧ IsPart u o ∧ Q o H') X.xe s
def tNoPart : TO := fun _ H Q => Q none H
def tPart (t : TE) : TO := fun σ H Q => t σ H fun x H1 => ∃ i,x = .int i ∧ Q (some i) H1

section
variable {X : Cx} {e : Expr} {te : TE} {lo hi : Option Expr} {tl th : TO} {pos p2 : Pos}

theorem po_none : PO X none tNoPart := by
 intro pins s σ H Q I h
 rw [evalPart_none]
 exact wpAny_pure ⟨none,H,I,.none,h⟩
theorem po_some (h : PE X e te) : PO X (some e) (tPart te) := by
 intro pins s σ H Q I hw
 rw [evalPart_some]
 refine thn (h pins s σ H _ I hw) fun u s1 ⟨x,H1,I1,r1,q1⟩ => ?_
 obtain ⟨i,rfl,q⟩ := q1
 obtain ⟨t,rfl⟩ := r1
 exact ⟨some i,H1,I1,.int i t,q⟩

def SlR (X : Cx) (r : V → Option Int → Option Int → Hp → VK → Prop) : Prop :=
 ∀ (pins : List (Addr × Obj)) (s : Shared) (σ : St) (H : Hp) (x : V) (v vl vu : Value) (lo hi : Option Int) (sl : Addr) (Q : VK),Inv X pins σ H s → RelV x v → s.heap.IsSliceOf sl vl vu .none → IsPart vl lo → IsPart vu hi → r x lo hi H Q →
   ∃ T id,typeLookup (.type T) "__getitem__" = pure (some (.builtin id)) ∧ s.TypeIs v T ∧ wpAny (model X.prog X.w) X.A (getItem v (.ref sl)) (EP X pins σ Q) X.xe s
theorem SlR.or {r r' : V → Option Int → Option Int → Hp → VK → Prop} (h : SlR X r) (h' : SlR X r') : SlR X (fun x lo hi H Q => r x lo hi H Q ∨ r' x lo hi H Q) := by
 intro pins s σ H x v vl vu lo hi sl Q I rx hs pl pu q
 rcases q with q | q
 · exact h pins s σ H x v vl vu lo hi sl Q I rx hs pl pu q
 · exact h' pins s σ H x v vl vu lo hi sl Q I rx hs pl pu q
def tSl (r : V → Option Int → Option Int → Hp → VK → Prop) (te : TE) (tl th : TO) : TE := fun σ H Q => te σ H fun x H1 => tl σ H1 fun l H2 => th σ H2 fun u H3 => r x l u H3 Q
theorem pe_slice {r : V → Option Int → Option Int → Hp → VK → Prop} (hr : SlR X r) (he : PE X e te) (hl : PO X lo tl) (hu : PO X hi th) : PE X (.Subscript e (.Slice lo hi none p2) pos) (tSl r te tl th) := by
 intro pins s σ H Q I h
 refine Subscript_ (thn (he pins s σ H _ I h) fun v s1 ⟨x,H1,I1,r1,q1⟩ => ?_)
 refine wpAny_Slice (thn (hl pins s1 σ H1 _ I1 q1) fun vl s2 ⟨l,H2,I2,pl,q2⟩ => thn (hu pins s2 σ H2 _ I2 q2) fun vu s3 ⟨u,H3,I3,pu,q3⟩ => ?_)
 rw [evalPart_none]
 refine wpAny_pure ?_
 have I4 : Inv X pins σ H3 { s3 with heap := s3.heap.push { cls := .type "slice",data := .fields #[vl,vu,.none] } } := I3.kept (t' := s3.toks) fun b ob q => Heap.get?_push_of_some _ q
 obtain ⟨T,id,hT,ht,hg⟩ := hr pins { s3 with heap := s3.heap.push { cls := .type "slice",data := .fields #[vl,vu,.none] } } σ H3 x v vl vu l u s3.heap.objs.size Q I4 r1 (Heap.IsSliceOf.new ..) pl pu q3
 show wpAny (model X.prog X.w) X.A (subscriptTail e (.Slice lo hi none p2) v (.ref s3.heap.objs.size)) (EP X pins σ Q) X.xe { s3 with heap := s3.heap.push { cls := .type "slice",data := .fields #[vl,vu,.none] } }
 exact tail_any (ops := [.ref s3.heap.objs.size,v]) ht hT hg (by with_unfolding_all rfl)

def cutV (xs : List V) (lo hi : Option Int) : List V := (xs.drop (HT.sIx xs.length 0 lo)).take (HT.sIx xs.length xs.length hi - HT.sIx xs.length 0 lo)
theorem cutV_length (xs : List V) (lo hi : Option Int) : (cutV xs lo hi).length ≤ xs.length := by
 unfold cutV
 rw [List.length_take,List.length_drop]
 omega
def rSlT (K : PySem.W.Frag) : V → Option Int → Option Int → Hp → VK → Prop := fun x lo hi H Q => ∃ a xs,x = .ref a ∧ SqT K H a xs ∧
 ¬ (HT.sIx xs.length 0 lo = 0 ∧ HT.sIx xs.length xs.length hi = xs.length) ∧ ∀ p,H p = none → Q (.ref p) (upd H p (.tup (cutV xs lo hi)))
theorem sl_tup : SlR X (rSlT X.K) := by
 intro pins s σ H x v vl vu lo hi sl Q I rx hs pl pu h
 obtain ⟨a,xs,rfl,hx,hw,q⟩ := h
 cases rx
 obtain ⟨its,r,ht,hz⟩ := I.tuple hx
 have hlen : its.toArray.size = xs.length := by rw [List.size_toArray]; exact r.length.symm
 refine ⟨"tuple",_,PyProof.Rows.slot_tuple_getitem.lookup,ht.typeIs,?_⟩
 refine HT.getItem_tuple_cut ht hs pl pu (by rw [hlen]; exact hw) ?_ (by rw [hlen]; exact hz)
 rw [hlen]
 refine ⟨.ref s.heap.objs.size,_,I.laid (t' := s.toks) (o := .tup (cutV xs lo hi)) (fun b ob q => Heap.get?_push_of_some _ q) (Nat.le_refl _) ?_,rfl,q _ (I.hok.fresh (Nat.le_refl _))⟩
 exact ⟨Nat.le_trans (cutV_length xs lo hi) hz,_,(r.drop (HT.sIx xs.length 0 lo)).take (HT.sIx xs.length xs.length hi - HT.sIx xs.length 0 lo),IsTup.new _ _⟩

def rCatT (K : PySem.W.Frag) : R2 := fun x y H Q => ∃ a b xs ys,x = .ref a ∧ y = .ref b ∧ SqT K H a xs ∧ SqT K H b ys ∧ xs ≠ [] ∧ xs.length + ys.length ≤ sizeLine ∧
 (ys = [] → Q (.ref a) H) ∧ (ys ≠ [] → ∀ p,H p = none → Q (.ref p) (upd H p (.tup (xs ++ ys))))
theorem Vals.nil_iff {xs : List V} {us : List Value} (r : Vals xs us) : us = [] ↔ xs = [] := by
 cases r with
 | nil => simp
 | cons _ _ => simp
theorem op_catT : OpR X (binaryOp .Add) (rCatT X.K) := by
 intro pins s σ H x y v u Q I rx ry h
 obtain ⟨a,b,xs,ys,rfl,rfl,ha,hb,hx,hz,q1,q2⟩ := h
 cases rx
 cases ry
 obtain ⟨its,r1,p1,_⟩ := I.tuple ha
 obtain ⟨its2,r2,p2,_⟩ := I.tuple hb
 refine HT.cat_tup p1 p2 (fun z => hx (r1.nil_iff.mp z)) (fun z => ⟨.ref a,H,I,rfl,q1 (r2.nil_iff.mp z)⟩) (fun z => ?_) (by rw [← r1.length,← r2.length]; exact hz)
 refine ⟨.ref s.heap.objs.size,_,I.laid (t' := s.toks) (o := .tup (xs ++ ys)) (fun b ob q => Heap.get?_push_of_some _ q) (Nat.le_refl _) ?_,rfl,q2 (fun w => z (r2.nil_iff.mpr w)) _ (I.hok.fresh (Nat.le_refl _))⟩
 exact ⟨by rw [List.length_append]; exact hz,_,r1.append r2,IsTup.new _ _⟩
end
end L2

namespace L2
open PySem PySem.Spec PyProof.Rows

def ixN (n : Nat) (i : Int) : Option Nat := if 0 ≤ i then (if i < n then some i.toNat else none) else if -(n : Int) ≤ i then some (i + n).toNat else none
def atI {α : Type} (xs : List α) (i : Int) : Option α := (ixN xs.length i).bind fun j => xs[j]?
theorem ixN_seq {n : Nat} {i : Int} {j : Nat} (h : ixN n i = some j) : seqIndex? i n = some j ∧ j < n ∧ -(n : Int) ≤ i ∧ i < n := by
 unfold ixN at h
 by_cases h0 : 0 ≤ i
 · rw [if_pos h0] at h
   by_cases h1 : i < n
   · rw [if_pos h1] at h
     have e : i.toNat = j := Option.some.inj h
     exact ⟨by rw [seqIndex_of h0 h1,e],by omega,by omega,h1⟩
   · rw [if_neg h1] at h; cases h
 · rw [if_neg h0] at h
   by_cases h1 : -(n : Int) ≤ i
   · rw [if_pos h1] at h
     have e : (i + n).toNat = j := Option.some.inj h
     exact ⟨by rw [seqIndex_neg (by omega) h1,e],by omega,h1,by omega⟩
   · rw [if_neg h1] at h; cases h
theorem atI_get {α : Type} {xs : List α} {i : Int} {v : α} (h : atI xs i = some v) : ∃ j,seqIndex? i xs.length = some j ∧ xs[j]? = some v ∧ j < xs.length ∧ -(xs.length : Int) ≤ i ∧ i < xs.length := by
 unfold atI at h
 cases e : ixN xs.length i with
 | none => rw [e] at h; cases h
 | some j =>
   rw [e] at h
   obtain ⟨h1,h2,h3,h4⟩ := ixN_seq e
   exact ⟨j,h1,h,h2,h3,h4⟩
theorem atI_nat {α : Type} {xs : List α} {j : Nat} {v : α} (h : xs[j]? = some v) : atI xs (j : Int) = some v := by
 have hj : j < xs.length := (List.getElem?_eq_some_iff.mp h).1
 have e : ixN xs.length (j : Int) = some j := by
   unfold ixN
   rw [if_pos (by omega),if_pos (by omega)]; simp
 unfold atI; rw [e]; exact h
def PlainIx (b : Expr) : Prop := ∀ o i,subscripted b false o i = operate [o,i] (getItem o i)
def IxR (X : Cx) (r : R2) : Prop :=
 ∀ (value slice : Expr) (pins : List (Addr × Obj)) (s : Shared) (σ : St) (H : Hp) (x y : V) (v u : Value) (Q : VK),Inv X pins σ H s → RelV x v → RelV y u → r x y H Q →
   subscripted slice false v u = operate [v,u] (getItem v u) → wpAny (model X.prog X.w) X.A (subscriptTail value slice v u) (EP X pins σ Q) X.xe s
def MtR (X : Cx) (id : String) (r : V → List V → Hp → VK → Prop) : Prop :=
 ∀ (pins : List (Addr × Obj)) (s : Shared) (σ : St) (H : Hp) (x : V) (xs : List V) (v : Value) (us : List Value) (Q : VK),Inv X pins σ H s → RelV x v → Vals xs us → r x xs H Q →
   wpAny (model X.prog X.w) X.A (call (.builtin id) (v :: us)) (EP X pins σ Q) X.xe s
section
variable {X : Cx} {a b : Expr} {ta tb : TE} {pos : Pos}
theorem IxR.or {r r' : R2} (h : IxR X r) (h' : IxR X r') : IxR X (fun x y H Q => r x y H Q ∨ r' x y H Q) := by
 intro value slice pins s σ H x y v u Q I rx ry q hs
 rcases q with q | q
 · exact h value slice pins s σ H x y v u Q I rx ry q hs
 · exact h' value slice pins s σ H x y v u Q I rx ry q hs
theorem pe_ix {r : R2} (hr : IxR X r) (ha : PE X a ta) (hb : PE X b tb) (hs : PlainIx b) : PE X (.Subscript a b pos) (tOp r ta tb) := by
 intro pins s σ H Q I h
 exact Subscript_ (binT ha hb I h fun v u s2 x y H2 I2 rx ry q => hr a b pins s2 σ H2 x y v u Q I2 rx ry q (hs _ _))

def rIxL (K : PySem.W.Frag) : R2 := fun x y H Q => ∃ p xs i v,x = .ref p ∧ y = .int i ∧ SqL K H p xs ∧ atI xs i = some v ∧ Q v H
def rIxT (K : PySem.W.Frag) : R2 := fun x y H Q => ∃ p xs i v,x = .ref p ∧ y = .int i ∧ SqT K H p xs ∧ atI xs i = some v ∧ Q v H
def rIxS : R2 := fun x y H Q => ∃ z i c,x = .str z ∧ y = .int i ∧ z.length ≤ sizeLine ∧ atI z.cps.toList i = some c ∧ Q (.str ⟨#[c]⟩) H
theorem ix_list : IxR X (rIxL X.K) := by
 intro value slice pins s σ H x y v u Q I rx ry h hs
 obtain ⟨p,xs,i,z,rfl,rfl,hq,he,q⟩ := h
 cases rx
 obtain ⟨t,rfl⟩ := ry
 obtain ⟨its,r,pl,hz⟩ := I.list hq
 obtain ⟨j,h1,h2,h3,h4,h5⟩ := atI_get he
 obtain ⟨w,ew,rw'⟩ := r.get h2
 have hl := r.length
 have hn := line63
 have fin : EP X pins σ Q w s := ⟨z,H,I,rw',q⟩
 by_cases h0 : 0 ≤ i
 · have hj : i.toNat = j := by
     rw [seqIndex_of h0 h5] at h1
     exact Option.some.inj h1
   exact item_listR pl.isList h0 (by omega) (by rw [hj]; simpa using ew) fin hs
 · have hj : (i + (its.toArray.size : Int)).toNat = j := by
     rw [seqIndex_neg (by omega) h4] at h1
     rw [List.size_toArray,← hl]
     exact Option.some.inj h1
   exact subscriptTail_builtinR (x := w) pl.isList.typeIs slot_list_getitem.lookup
     (wpAny_getItem_list_neg (Q := fun r s' => r = w ∧ EP X pins σ Q r s') pl.isList (by omega) (by rw [List.size_toArray] <;> omega) (by omega) (by rw [hj]; simpa using ew) ⟨rfl,fin⟩) hs
theorem ix_tup : IxR X (rIxT X.K) := by
 intro value slice pins s σ H x y v u Q I rx ry h hs
 obtain ⟨p,xs,i,z,rfl,rfl,hq,he,q⟩ := h
 cases rx
 obtain ⟨t,rfl⟩ := ry
 obtain ⟨its,r,pl,hz⟩ := I.tuple hq
 obtain ⟨j,h1,h2,h3,h4,h5⟩ := atI_get he
 obtain ⟨w,ew,rw'⟩ := r.get h2
 have hl := r.length
 have hn := line63
 have fin : EP X pins σ Q w s := ⟨z,H,I,rw',q⟩
 exact subscriptTail_builtinR (x := w) pl.typeIs slot_tuple_getitem.lookup
   (getItem_tuple (j := j) (Q := fun r s' => r = w ∧ EP X pins σ Q r s') pl (by omega) (by omega) (by rw [List.size_toArray,← hl]; exact h1) (by simpa using ew) ⟨rfl,fin⟩) hs
theorem ix_str : IxR X rIxS := by
 intro value slice pins s σ H x y v u Q I rx ry h hs
 obtain ⟨z,i,c,rfl,rfl,hz,he,q⟩ := h
 obtain ⟨t,rfl⟩ := rx
 obtain ⟨t',rfl⟩ := ry
 obtain ⟨j,h1,h2,h3,h4,h5⟩ := atI_get he
 have hl : z.cps.toList.length = z.length := by simp [Str.length]
 rw [hl] at h1 h4 h5
 have hn := line63
 exact tail_any (typeIs_str s z t) slot_str_getitem.lookup (getItem_str (c := c) (by
   have e1 : decide (i < -(2 ^ 63 : Int)) = false := decide_eq_false (by omega)
   have e2 : decide (i ≥ 2 ^ 63) = false := decide_eq_false (by omega)
   rw [e1,e2,Bool.or_false]) (by rw [h1]; simpa using h2) ⟨.str ⟨#[c]⟩,H,I.tok _,⟨_,rfl⟩,q⟩) hs
def rIx (K : PySem.W.Frag) : R2 := fun x y H Q => rIxL K x y H Q ∨ rIxT K x y H Q ∨ rIxS x y H Q
theorem ix_seq : IxR X (rIx X.K) := ix_list.or (ix_tup.or ix_str)

theorem slice_bounds (lo hi : Option Int) (n : Nat) : (sliceBounds lo hi none n).1 = ((HT.sIx n 0 lo : Nat) : Int) ∧ (sliceBounds lo hi none n).2.1 = ((HT.sIx n n hi : Nat) : Int) ∧ (sliceBounds lo hi none n).2.2 = 1 := by
 refine ⟨?_,?_,rfl⟩
 · cases lo with
   | none => simp [sliceBounds,HT.sIx]
   | some i =>
     simp only [sliceBounds,HT.sIx,Option.getD_none,show (1 : Int) > 0 by decide,if_true]
     by_cases h : i < 0
     · simp only [h,if_true] <;> omega
     · simp only [h,if_false] <;> omega
 · cases hi with
   | none => simp [sliceBounds,HT.sIx]
   | some i =>
     simp only [sliceBounds,HT.sIx,Option.getD_none,show (1 : Int) > 0 by decide,if_true]
     by_cases h : i < 0
     · simp only [h,if_true] <;> omega
     · simp only [h,if_false] <;> omega
theorem slicePick_cut (its : List Value) (lo hi : Option Int) : slicePick its.toArray lo hi none = ((its.drop (HT.sIx its.length 0 lo)).take (HT.sIx its.length its.length hi - HT.sIx its.length 0 lo)).toArray := by
 obtain ⟨h1,h2,h3⟩ := slice_bounds lo hi its.toArray.size
 unfold slicePick
 rw [h1,h2,h3]
 simp only [sliceRange_one,pick_run,List.size_toArray] <;> rfl
def rSlL (K : PySem.W.Frag) : V → Option Int → Option Int → Hp → VK → Prop := fun x lo hi H Q => ∃ a xs,x = .ref a ∧ SqL K H a xs ∧ ∀ p,H p = none → Q (.ref p) (upd H p (.lst (cutV xs lo hi)))
theorem sl_list : SlR X (rSlL X.K) := by
 intro pins s σ H x v vl vu lo hi sl Q I rx hs pl pu h
 obtain ⟨a,xs,rfl,hx,q⟩ := h
 cases rx
 obtain ⟨its,r,ht,hz⟩ := I.list hx
 have hlen := r.length
 refine ⟨"list",_,slot_list_getitem.lookup,ht.isList.typeIs,?_⟩
 refine wpAny_getItem_list_slice ht.isList hs pl pu .none (by simp) ?_ (by rw [List.size_toArray] <;> omega)
 rw [slicePick_cut,← hlen]
 refine ⟨.ref s.heap.objs.size,_,I.laid (t' := s.toks) (o := .lst (cutV xs lo hi)) (fun b ob q => Heap.get?_push_of_some _ q) (Nat.le_refl _) ?_,rfl,q _ (I.hok.fresh (Nat.le_refl _))⟩
 exact ⟨Nat.le_trans (cutV_length xs lo hi) hz,_,0,(r.drop (HT.sIx xs.length 0 lo)).take (HT.sIx xs.length xs.length hi - HT.sIx xs.length 0 lo),Heap.get?_push_size _ rfl⟩

def flatV : V → Bool
 | .non => true
 | .bl _ => true
 | .int _ => true
 | .str _ => true
 | _ => false
def eqV : V → V → Bool
 | .non,.non => true
 | .bl a,.bl b => a == b
 | .bl a,.int b => (if a then 1 else 0) == b
 | .int a,.bl b => a == (if b then 1 else 0)
 | .int a,.int b => a == b
 | .str a,.str b => a == b
 | _,_ => false
theorem eqAt_V {A : Around} {s : Shared} {y x : V} {u v : Value} (ry : RelV y u) (rx : RelV x v) (fy : flatV y = true) (fx : flatV x = true) : SeqAt.EqAt A s u v (eqV y x) := by
 cases y with
 | non =>
   cases ry
   cases x with
   | non => cases rx; exact SeqAt.EqAt.same _
   | bl b => cases rx; exact SeqAt.EqAt.none_bool b
   | int b => obtain ⟨t,rfl⟩ := rx; exact SeqAt.EqAt.none_int b t
   | str b => obtain ⟨t,rfl⟩ := rx; exact SeqAt.EqAt.none_str b t
   | _ => exact absurd (show false = true from fx) Bool.false_ne_true
 | bl a =>
   cases ry
   cases x with
   | non => cases rx; exact SeqAt.EqAt.bool_none a
   | bl b => cases rx; exact SeqAt.EqAt.bool_bool a b
   | int b => obtain ⟨t,rfl⟩ := rx; exact SeqAt.EqAt.bool_int a b t
   | str b => obtain ⟨t,rfl⟩ := rx; exact SeqAt.EqAt.bool_str a b t
   | _ => exact absurd (show false = true from fx) Bool.false_ne_true
 | int a =>
   obtain ⟨t',rfl⟩ := ry
   cases x with
   | non => cases rx; exact SeqAt.EqAt.int_none a t'
   | bl b => cases rx; exact SeqAt.EqAt.int_bool a t' b
   | int b => obtain ⟨t,rfl⟩ := rx; exact SeqAt.EqAt.int_int a t' b t
   | str b => obtain ⟨t,rfl⟩ := rx; exact SeqAt.EqAt.int_str a t' b t
   | _ => exact absurd (show false = true from fx) Bool.false_ne_true
 | str a =>
   obtain ⟨t',rfl⟩ := ry
   cases x with
   | non => cases rx; exact SeqAt.EqAt.str_none a t'
   | bl b => cases rx; exact SeqAt.EqAt.str_bool a t' b
   | int b => obtain ⟨t,rfl⟩ := rx; exact SeqAt.EqAt.str_int a t' b t
   | str b => obtain ⟨t,rfl⟩ := rx; exact SeqAt.EqAt.str_str a t' b t
   | _ => exact absurd (show false = true from fx) Bool.false_ne_true
 | _ => exact absurd (show false = true from fy) Bool.false_ne_true
theorem call_len_seq : CallR X (.builtin "len") (fun xs H Q => ∃ p ys,xs = [.ref p] ∧ (SqL X.K H p ys ∨ SqT X.K H p ys) ∧ Q (.int ys.length) H) := by
 intro pins s σ H xs us Q I r h
 obtain ⟨p,ys,rfl,hq,q⟩ := h
 obtain ⟨u,rfl,rx⟩ := vals1 r
 cases rx
 have hn := line63
 rcases hq with hq | hq
 · obtain ⟨its,r',pl,hz⟩ := I.list hq
   have hlen := r'.length
   exact Calls.call_len_list pl.isList (by simp only [List.size_toArray] <;> omega) ⟨.int ys.length,H,I.tok _,⟨s.toks + 1,by rw [List.size_toArray,hlen]⟩,q⟩
 · obtain ⟨its,r',pl,hz⟩ := I.tuple hq
   have hlen := r'.length
   exact len_tuple pl (by simp only [List.size_toArray] <;> omega) ⟨.int ys.length,H,I.tok _,⟨s.toks + 1,by rw [List.size_toArray,hlen]⟩,q⟩
theorem call_len_str : CallR X (.builtin "len") (fun xs H Q => ∃ z,xs = [.str z] ∧ z.length ≤ sizeLine ∧ Q (.int z.length) H) := by
 intro pins s σ H xs us Q I r h
 obtain ⟨z,rfl,hz,q⟩ := h
 obtain ⟨u,rfl,t,rfl⟩ := vals1 r
 have hn := line63
 exact len_str (by omega) ⟨.int z.length,H,I.tok _,⟨_,rfl⟩,q⟩
theorem CallR.or {f : Value} {r r' : List V → Hp → VK → Prop} (h : CallR X f r) (h' : CallR X f r') : CallR X f (fun xs H Q => r xs H Q ∨ r' xs H Q) := by
 intro pins s σ H xs us Q I rs q
 rcases q with q | q
 · exact h pins s σ H xs us Q I rs q
 · exact h' pins s σ H xs us Q I rs q
def tyV (K : PySem.W.Frag) (T : String) (x : V) (H : Hp) : Prop := match x with
 | .str _ => T = "str"
 | .int _ => T = "int"
 | .ref p => (T = "list" ∧ ∃ xs,SqL K H p xs) ∨ (T = "tuple" ∧ ∃ o,K.lookup p = some o ∧ o.cls = .type "tuple" ∧ o.dict = none) ∨
     (T = "dict" ∧ ((∃ kvs,H p = some (.dK kvs)) ∨ ∃ kvs,H p = some (.dT kvs))) ∨ (T = "set" ∧ ∃ S n,H p = some (.set S n))
 | _ => False
theorem tyV_is {pins : List (Addr × Obj)} {σ : St} {H : Hp} {s : Shared} {T : String} {x : V} {v : Value} (I : Inv X pins σ H s) (r : RelV x v) (ty : tyV X.K T x H) :
   s.TypeIs v T ∧ ∀ a,v = .ref a → ∃ ob,s.heap.get? a = some ob ∧ ob.dict = none := by
 cases x with
 | str z =>
   obtain ⟨t,rfl⟩ := r
   cases (show T = "str" from ty)
   exact ⟨typeIs_str s z t,fun _ e => nomatch e⟩
 | int i =>
   obtain ⟨t,rfl⟩ := r
   cases (show T = "int" from ty)
   exact ⟨typeIs_int s i t,fun _ e => nomatch e⟩
 | ref p =>
   cases r
   rcases ty with ⟨rfl,xs,hq⟩ | ⟨rfl,o,hk,hc,hd⟩ | ⟨rfl,hk⟩ | ⟨rfl,S,n,hk⟩
   · obtain ⟨its,_,pl,_⟩ := I.list hq
     refine ⟨pl.isList.typeIs,fun a e => ?_⟩
     cases e
     obtain ⟨o,n,e,c,hd,_⟩ := pl
     exact ⟨o,e,hd⟩
   · refine ⟨⟨o,I.kIn p o hk,hc⟩,fun a e => ?_⟩
     cases e
     exact ⟨o,I.kIn _ o hk,hd⟩
   · have z : ∃ o,s.heap.get? p = some o ∧ o.ExactDict := by
       rcases hk with ⟨kvs,hk⟩ | ⟨kvs,hk⟩
       · obtain ⟨_,_,_,_,o,_,_,e,ex,_⟩ := I.hok p _ hk
         exact ⟨o,e,ex⟩
       · obtain ⟨_,_,_,_,o,_,_,e,ex,_⟩ := I.hok p _ hk
         exact ⟨o,e,ex⟩
     obtain ⟨o,e,ex⟩ := z
     refine ⟨⟨o,e,ex.1⟩,fun a e2 => ?_⟩
     cases e2
     exact ⟨o,e,ex.2.1⟩
   · obtain ⟨o,_,_,_,e,ex,_⟩ := I.hok p _ hk
     refine ⟨⟨o,e,ex.1⟩,fun a e2 => ?_⟩
     cases e2
     exact ⟨o,e,ex.2.1⟩
 | _ => exact False.elim ty
def tBM (K : PySem.W.Frag) (T : String) (r : V → List V → Hp → VK → Prop) (to : TE) (t : TA) : TE := fun σ H Q => to σ H fun x H1 => tyV K T x H1 ∧ t σ H1 fun xs H2 => r x xs H2 Q
variable {o e : Expr} {es : List Expr} {to : TE} {t : TA} {name : Str} {apos cpos : Pos} {T id : String} {r : V → List V → Hp → VK → Prop}
theorem pe_bm (pa : PlainAttrs T) (slot : Slot T name id) (hty : typeOf (.builtin id) = pure (.type "method_descriptor")) (hm : MtR X id r) (ho : PE X o to) (ha : PA X (e :: es) t)
   (hbase : attributeBase o name X.env (eval o X.env) = eval o X.env := by rfl)
   (hfew : ((backTo cpos (starEach (e :: es) X.env)).all (fun x => !x.1) && (backToKw cpos (keywordEach [] X.env)).all (fun x => x.1.isSome)
     && decide ((e :: es).length + ([] : List Keyword).length + (if ([] : List Keyword).isEmpty then 0 else 1) < 30)) = true := by rfl)
   (hline : (apos.endLine == cpos.line) = true := by rfl) (hs : starEach (e :: es) X.env = (false,eval e X.env) :: starEach es X.env := by rfl) (hplain : (backTo cpos (starEach es X.env)).any (·.1) = false := by rfl) :
   PE X (.Call (.Attribute o name apos) (e :: es) [] cpos) (tBM X.K T r to t) := by
 intro pins s σ H Q I h
 refine wpAny_Call_method_late hbase hfew hline rfl (thn (ho pins s σ H _ I h) fun v s1 ⟨x,H1,I1,r1,ty,q1⟩ => ?_)
 obtain ⟨h1,h2⟩ := tyV_is I1 r1 ty
 refine ⟨T,id,pa,slot,hty,h1,h2,?_⟩
 have hA := ha cpos pins s1 σ H1 _ I1 q1
 rw [hs] at hA ⊢
 refine Calls.callWith_builtin (by show (false || (backTo cpos (starEach es X.env)).any (·.1)) = false; rw [hplain] <;> rfl) (Calls.evalArgs_plain ?_)
 exact thn hA fun us s2 ⟨vs,H2,I2,r2,q2⟩ => hm pins s2 σ H2 x vs v us Q I2 r1 r2 q2
/- xs.append(e),list.index on a module's tuple .. are MtR facts of 06m -/
end
end L2

namespace L2
open PySem PySem.Spec PyProof.Rows

def MtM (X : Cx) (id : String) (r : V → List V → Hp → VK → Prop) : Prop :=
 ∀ (pins : List (Addr × Obj)) (s : Shared) (σ : St) (H : Hp) (x : V) (xs : List V) (v : Value) (us : List Value) (Q : VK),Inv X pins σ H s → RelV x v → Vals xs us → r x xs H Q →
   wpAny (model X.prog X.w) X.A (call (.builtin id) (v :: us)) (EP X pins σ Q) X.xe s

theorem Vals.one : ∀ {x : V} {us : List Value},Vals [x] us → ∃ u,us = [u] ∧ RelV x u
 | _,_,.cons r .nil => ⟨_,rfl,r⟩
theorem Vals.dropLast {xs : List V} {us : List Value} (h : Vals xs us) : Vals xs.dropLast us.dropLast := by
 induction h with
 | nil => exact .nil
 | cons r t ih =>
   cases t with
   | nil => exact .nil
   | cons q t' => exact .cons r ih
section
variable {X : Cx} {pins : List (Addr × Obj)} {σ : St} {H : Hp} {s : Shared} {l b : Addr} {xs ys zs : List V}

theorem Inv.lset {its its' : List Value} {n : Nat} {f : Array Value → Array Value} {t' : Nat} (I : Inv X pins σ H s) (hH : H l = some (.lst xs))
   (e : s.heap.get? l = some { cls := .type "list",data := .seq its.toArray n }) (hf : f its.toArray = its'.toArray) (hv : Vals ys its') (hz : ys.length ≤ sizeLine) :
   Inv X pins σ (upd H l (.lst ys)) { s with heap := s.heap.update l (Obj.mapSeq f),toks := t' } := by
 have q := PySem.IsL.update e f
 rw [hf] at q
 refine I.write (x := l) (e := l) (by rw [hH]; exact trivial) (.inl rfl) (fun b' u hb hu => (Heap.get?_update_other s.heap (Obj.mapSeq f) (Ne.symm hb)).trans hu) ⟨_,q⟩ ?_
 exact ⟨hz,its',_,hv,q⟩
theorem Inv.lnew {its : List Value} {t' : Nat} (I : Inv X pins σ H s) (hv : Vals ys its) (hz : ys.length ≤ sizeLine) :
   Inv X pins σ (upd H s.heap.objs.size (.lst ys)) { s with heap := s.heap.push { cls := .type "list",data := .seq its.toArray },toks := t' } :=
 I.laid (fun _ _ q => Heap.get?_push_of_some _ q) (Nat.le_refl _) ⟨hz,its,0,hv,Heap.get?_push_size _ rfl⟩
theorem Inv.fresh (I : Inv X pins σ H s) : H s.heap.objs.size = none := I.hok.fresh (Nat.le_refl _)
theorem Inv.lstM (I : Inv X pins σ H s) (hH : H l = some (.lst xs)) : xs.length ≤ sizeLine ∧ ∃ (its : List Value) (n : Nat),Vals xs its ∧ xs.length = its.length ∧ s.heap.get? l = some { cls := .type "list",data := .seq its.toArray n } := by
 obtain ⟨z,its,n,r,e⟩ := I.hok l _ hH
 exact ⟨z,its,n,r,r.length,e⟩

end

section
variable {X : Cx}

def rAppend : V → List V → Hp → VK → Prop := fun x vs H Q => ∃ l xs y,x = .ref l ∧ vs = [y] ∧ H l = some (.lst xs) ∧ xs.length < sizeLine ∧ Q .non (upd H l (.lst (xs ++ [y])))
theorem mt_append : MtM X "list.append" rAppend := by
 intro pins s σ H x vs v us Q I rx rv h
 obtain ⟨l,xs,y,rfl,rfl,hH,hz,q⟩ := h
 cases rx
 obtain ⟨u,rfl,ru⟩ := rv.one
 obtain ⟨z,its,n,r,hl,e⟩ := I.lstM hH
 refine call_meets F.slot_list_append ⟨_,e,rfl⟩ F.entry_list_append (F.args_list_append_2 _ _) (PySem.list_append l its.toArray n u (by rw [List.size_toArray]; omega)) ⟨e,?_⟩
 refine ⟨.non,_,I.lset (its' := its ++ [u]) hH e (by simp) (r.append (.cons ru .nil)) ?_,rfl,q⟩
 rw [List.length_append,List.length_singleton]
 omega

end


end L2

namespace Att
open PySem PySem.W PySem.Calls PyProof.Rows

theorem ints_of_wellAll {P : Params} {h : Heap} : ∀ (ns : List Int) (vs : List Value),WellAll P h vs (ns.map WData.int) → IntsAre vs ns := by
 intro ns
 induction ns with
 | nil =>
   intro vs w
   rw [List.map_nil] at w
   cases w
   exact .nil
 | cons n ns ih =>
   intro vs w
   rw [List.map_cons] at w
   cases w with
   | cons a b =>
     cases a
     exact .cons _ _ (ih _ b)

theorem script_of {l : OpenLaw} {n : Nat} (hn : l.most = some n) {P : Params} {h : Heap} {args : List WData} {vals : List Value}
   (hpre : l.row.toRowW.claim.pre args = true) (hwl : WellAll P h vals args) :
   ∃ a vs ns,vals = [Value.ref a] ∧ args = [WData.list (ns.map WData.int)] ∧ h.get? a = some { cls := .type "list",data := .seq vs.toArray } ∧ IntsAre vs ns ∧ ns.length ≤ n := by
 have hsh : WShape.hasAll [] args [.list .int] = true := (pre_splitW hpre).1
 have hc : l.pre.holds [] { args := args } = true := (pre_splitW hpre).2
 obtain ⟨d,r,rfl,h1,h2⟩ := hasAllW_cons hsh
 obtain rfl := hasAllW_nil h2
 obtain ⟨xs,rfl,h3⟩ := hasW_list h1
 obtain ⟨ns,rfl⟩ := items_int h3
 have hlen : ns.length ≤ n := by
   unfold OpenLaw.pre at hc
   have h4 : (WTm.not (.lt (.lit (.int (n : Int))) (.len (.arg 0)))).holds [] { args := [.list (ns.map .int)] } = true := by
     have h4 := (holds_andW hc).1
     rw [hn] at h4
     exact h4
   have h5 := condW_of h4 (w_not (w_lt w_lit (w_len_list (w_arg rfl))))
   rw [List.length_map] at h5
   refine Nat.le_of_not_lt fun q => ?_
   have q' : (n : Int) < ((ns.length : Nat) : Int) := by omega
   first
     | (rw [decide_eq_true q'] at h5; exact absurd h5 (by decide))
     | (simp at h5; omega)
 cases hwl with
 | cons w1 w2 =>
   cases w2
   cases w1 with
   | list ho hall => exact ⟨_,_,ns,rfl,rfl,ho,ints_of_wellAll ns _ hall,hlen⟩

theorem post_true (l : OpenLaw) (args : List WData) : l.row.toRowW.claim.post args (.bool true) args = true :=
 postW_of (r := l.row.toRowW) (X := (true == true))
   (show WShape.has [] (.bool true) .bool = true by first | rfl | decide | simp [WShape.has,WShape.arms,WShape.armsAll])
   (show (WTm.eq .res (.lit (.bool true))).value [] { args := args,res := some (.bool true),after := args } = some (.bool (true == true)) from w_eq_bool (w_res rfl) w_lit) rfl

theorem attach_call {l : OpenLaw} {n : Nat} {q : Program} {loose : List Str} {XP : (Str → Option Value) → Heap → Prop} {YP : World → Heap → Prop} {d : DefRec}
   (hn : l.most = some n) (hdf : d.params.defaults = [])
   (call : ∀ (w : World) (s₀ s₁ : Shared) (mg mb : Str → Option Value) (fa : Addr) (o : Obj) (pm cd doc : Value) (a : Addr) (vs : List Value) (ns : List Int),
     Ground q loose [] XP w s₀ mg mb s₁.heap → YP w s₁.heap →
     s₁.heap.get? fa = some o → o.data = .func (docDef d.name d.params d.body d.scope pm cd doc) → s₁.heap.CodeRec cd d.name → mg d.name = some (.ref fa) →
     s₁.heap.get? a = some { cls := .type "list",data := .seq vs.toArray } → IntsAre vs ns → ns.length ≤ n → s₁.gens = #[] →
     codeAny (model l.prog w) callerA (.call (.ref fa) ⟨[.ref a],[]⟩) (fun r s' => r = .ok (.ret (.bool true)) ∧ OldK s₁.heap s'.heap ∧ s'.os = s₁.os ∧ AllBare s'.gens) s₁) :
   WalkO q loose XP YP l.row.toRowW d [] (fun f vs => PySem.call f vs) := by
 intro w s₀ s₁ mg mb G Y fa o pm cd doc dV kV ho hd hcd hD hmg hg args vals as hpre hlay hrd hwl hlo
 obtain rfl : dV = .none := Dflts.none hD hdf
 obtain rfl : kV = .none := Dflts.noKw hD
 obtain ⟨a,vs,ns,rfl,rfl,hobj,hints,hlen⟩ := script_of hn hpre hwl
 refine enter_call (codeAny_mono (call w s₀ s₁ mg mb fa o pm cd doc a vs ns G Y ho (fd_plain hd) hcd hmg hobj hints hlen hg) fun r s' hq => ?_)
 obtain ⟨rfl,h2,h3,h4⟩ := hq
 exact ⟨.inl ⟨.bool true,.bool true,[],rfl,fun _ => rfl,.bool true,post_true l _,fun _ => ⟨List.Pairwise.nil,fun _ hm => (nomatch hm)⟩⟩,h2,h3,h4⟩

section
variable {prog : Program} {w : World} {A : Around} {E : Value → Shared → Prop} {s : Shared} {K : Frag}

def ledger (h : Heap) (L d : Addr) : List (Addr × Obj) := (List.range h.objs.size).filterMap fun a => if a = L ∨ a = d then none else (h.get? a).map fun o => (a,o)
end
end Att

namespace L2
open PySem PySem.Spec PyProof.Rows

theorem vals_ints : ∀ {vs : List Value} {ns : List Int},IntsAre vs ns → Vals (ns.map V.int) vs
 | _,_,.nil => .nil
 | _,_,.cons n t h => .cons ⟨t,rfl⟩ (vals_ints h)

end L2

namespace L2
open PySem PySem.Spec PyProof.Rows

abbrev KOf {K : PySem.W.Frag} {h : Heap} (_ : K.In h) : PySem.W.Frag := K

end L2

/- THE LAST THEOREM (shape; LID,My.* are yours):
  My.Adr: a structure of the addresses that your layer names (classes,functions); My.Txt K t: a structure (Prop) of the equations over K;
  My.txt_mk : {K} {implicit addresses ..} (e1 : nsIn K mainGlobals "law" = some (some (.ref f))) (e2 : K.lookup f = some ⟨oc,od,.func (fnOf "law" "law" params body scope dV kV doc pm an cdv ct),sl⟩) (e3 : codeIn K cdv "law" = true) .. : ∃ t,My.Txt K t

set_option maxRecDepth 100000 in
set_option maxHeartbeats 0 in
theorem PySem.Challenge.cw_LID_holds : PySem.Challenge.rw_LID.Holds := by
 w_on; o_law; k_head; (case hw => w_witness2)
 k_fill
 refine L2.walk_of (l := PySem.Challenge.rw_LID) (n := 63) (k := 40) (x := "script") (CX := fun w => ..) (sp := fun _ => My.sp_law) rfl (by decide) rfl ⟨rfl,by decide,by decide⟩ (fun w h Y => PySem.W.kIn_of Y) ?F ?S ?C
 case F =>
   intro w mg fa h KX G hmg
   have T : ∃ t,My.Txt (L2.KOf KX) t := by
     dsimp only [L2.KOf]                          -- K must stand as «<heap const> w.params» for k_is
     refine' My.txt_mk ?e1 ?e2 ?e3 ..
     (case e1 => PySem.W.k_is)                    -- in the order: a name -> its address -> its object -> its parts
     (case e2 => PySem.W.k_is)
     ..
   obtain ⟨t,T⟩ := T
   have e0 := hmg.symm.trans (PySem.W.mg_of KX G T.law)
   cases e0                                       -- fa is the law's own address
   exact ⟨_,fun s u => .of_eq rfl,fun base kb nb => My.law_fn T kb nb⟩     -- if «.of_eq rfl» comes too early: refine' ⟨_,?b,fun base kb nb => My.law_fn T kb nb⟩; exact fun s u => .of_eq rfl
 case S => exact fun w H a ns hl hO hS => ..
 case C => exact ..
(the tactic k_is has no namespace: write k_is) -/

namespace L2
open PySem PySem.Spec PyProof.Rows

def inClass (s : Stmt) (j : Nat) : Stmt := match s with
 | .ClassDef _ _ _ body _ _ _ _ _ _ _ => body.getD j (.Pass ⟨0,0,0,0⟩)
 | _ => .Pass ⟨0,0,0,0⟩
def defArgs (s : Stmt) : Arguments := match s with
 | .FunctionDef _ a _ _ _ _ _ _ _ _ => a
 | _ => { posonlyargs := [],args := [],vararg := none,kwonlyargs := [],kw_defaults := [],kwarg := none,defaults := [] }
def defBody (s : Stmt) : List Stmt := match s with
 | .FunctionDef _ _ b _ _ _ _ _ _ _ => b
 | _ => []
def defScope (s : Stmt) : Scope := match s with
 | .FunctionDef _ _ _ _ _ _ sc _ _ _ => sc
 | _ => { kind := .function,names := [],isGenerator := false,isCoroutine := false }

abbrev CX0 : CXT := fun _ _ _ _ _ _ => False
abbrev E0 : XK := fun _ _ _ => False
theorem pass0 {X : Cx} : Passes CX0 X E0 := fun _ _ _ _ _ _ _ h => h.elim


theorem iteF {A B : Prop} (h : B) : if false = true then A else B := by
 rw [if_neg Bool.false_ne_true]
 exact h
theorem iteT {A B : Prop} (h : A) : if true = true then A else B := by
 rw [if_pos rfl]
 exact h
end L2
namespace L2
open PySem PySem.Spec PyProof.Rows




section
variable {X : Cx} {pins : List (Addr × Obj)} {σ : St} {H : Hp} {s : Shared} {a : Addr} {y v : V} {u r : Value} {o : Option V} {A : Around} {E : Value → Shared → Prop}

end










end L2
namespace F
open PySem L2

def nStar : Expr → Bool
 | .Starred .. => false
 | _ => true
theorem star_cons {e : Expr} {es : List Expr} {env : Env} (h : nStar e = true) : starEach (e :: es) env = (false,eval e env) :: starEach es env := by
 cases e <;> first | rfl | cases h
theorem back_any {pos : Pos} {env : Env} : ∀ {es : List Expr},es.all nStar = true → (backTo pos (starEach es env)).any (·.1) = false
 | [],_ => rfl
 | e :: es,h => by
   rw [List.all_cons,Bool.and_eq_true] at h
   rw [star_cons h.1]
   show (false || (backTo pos (starEach es env)).any (·.1)) = false
   rw [back_any h.2]; rfl
structure LT where
 params : Arguments
 body : Expr
 scope : Scope
 qual : Str
 caps : List Str := []
 cl : List (Str × Addr) := []
inductive D where
 | non | bl (b : Bool) | int (i : Int) | str (x : Str) | fn (x : Str) | ty (n : String)
 | tup (ds : List D) | lst (ds : List D) | obj (i : Nat) | lam (t : LT) | clo (t : LT) (vs : List D)
inductive MO where
 | lst (ds : List D) | ins (c : Str) (fs : List (Str × D)) | dct (kvs : List (Int × D)) | exc (c : Str) | tab (x q : Str)
abbrev Sto := List MO
abbrev Ev := List (Option D)
abbrev E := Ev → Sto → Option (D × Sto)
abbrev B := Ev → Sto → Option (Bool × Sto)
abbrev As := Ev → Sto → Option (List D × Sto)
abbrev G := List D → Sto → Option (D × Sto)
inductive Out where
 | nx (e : Ev) | rt (d : D) | bk (e : Ev) | ct (e : Ev)
abbrev C := Ev → Sto → Option (Out × Sto)

def TupAt (K : PySem.W.Frag) (ρ : List Addr) (H : Hp) (p : Addr) (vs : List V) : Prop :=
 (p ∉ ρ ∧ Rd H p (.tup vs)) ∨ ∃ (o : Obj) (its : Array Value) (n : Nat),K.lookup p = some o ∧ o.cls = .type "tuple" ∧ o.data = .seq its n ∧ its.size ≤ sizeLine ∧ Vals vs its.toList
def LstAt (K : PySem.W.Frag) (ρ : List Addr) (H : Hp) (p : Addr) (vs : List V) : Prop :=
 (p ∉ ρ ∧ Rd H p (.lst vs)) ∨ ∃ (o : Obj) (its : Array Value) (n : Nat),K.lookup p = some o ∧ o.cls = .type "list" ∧ o.dict = none ∧ o.data = .seq its n ∧ its.size ≤ sizeLine ∧ Vals vs its.toList
theorem TupAt.sq {K ρ H p vs} (h : TupAt K ρ H p vs) : SqT K H p vs := by
 rcases h with ⟨_,h⟩ | h
 · exact .inl h
 · exact .inr h
theorem LstAt.sq {K ρ H p vs} (h : LstAt K ρ H p vs) : SqL K H p vs := by
 rcases h with ⟨_,h⟩ | h
 · exact .inl h
 · exact .inr h

def codeP (c : Addr) (q : Str) : Heap → Prop := fun h => h.CodeRec (.ref c) q
def lamP (t : LT) (a c : Addr) (pm ct : Value) : Heap → Prop := fun h => h.get? a = some (PySem.W.kla_obj "<lambda>" t.qual t.params t.body t.scope t.cl pm c ct)
def LamAt (ρ : List Addr) (H : Hp) (t : LT) (a : Addr) : Prop := a ∉ ρ ∧ ∃ c pm ct,c ∉ ρ ∧ H a = some (.ext (lamP t a c pm ct)) ∧ H c = some (.ext (codeP c t.qual))
def cloP (t : LT) (cl : List (Str × Addr)) (a c : Addr) (pm ct : Value) : Heap → Prop := fun h => h.get? a = some (PySem.W.kla_obj "<lambda>" t.qual t.params t.body t.scope cl pm c ct)
def Cells (ρ : List Addr) (H : Hp) : List Str → List V → List (Str × Addr) → Prop
 | [],[],[] => True
 | x :: xs,u :: us,p :: cl => p.1 = x ∧ p.2 ∉ ρ ∧ (∃ (o : Obj) (w : Value),H p.2 = some (.frz o (.own 0)) ∧ o.data = .cell (some w) ∧ RelV u w) ∧ Cells ρ H xs us cl
 | _,_,_ => False
def CloAt (ρ : List Addr) (H : Hp) (t : LT) (us : List V) (a : Addr) : Prop := a ∉ ρ ∧ ∃ c pm ct cl,c ∉ ρ ∧ H a = some (.ext (cloP t cl a c pm ct)) ∧ H c = some (.ext (codeP c t.qual)) ∧ (cl.map (·.2)).Nodup ∧ Cells ρ H t.caps us cl
section
variable (K : PySem.W.Frag) (mg : Str → Option Value)
mutual
def Rep (ρ : List Addr) (H : Hp) : D → V → Prop
 | .non,v => v = .non
 | .bl b,v => v = .bl b
 | .int i,v => v = .int i
 | .str x,v => v = .str x
 | .fn x,v => ∃ a,v = .ref a ∧ mg x = some (.ref a)
 | .ty n,v => v = .ty n
 | .tup ds,v => ∃ p vs,v = .ref p ∧ TupAt K ρ H p vs ∧ RepL ρ H ds vs
 | .lst ds,v => ∃ p vs,v = .ref p ∧ LstAt K ρ H p vs ∧ RepL ρ H ds vs
 | .obj i,v => ∃ a,v = .ref a ∧ ρ[i]? = some a
 | .lam t,v => ∃ a,v = .ref a ∧ LamAt ρ H t a
 | .clo t vs,v => ∃ a us,v = .ref a ∧ CloAt ρ H t us a ∧ RepL ρ H vs us
def RepL (ρ : List Addr) (H : Hp) : List D → List V → Prop
 | [],vs => vs = []
 | d :: ds,vs => ∃ v r,vs = v :: r ∧ Rep ρ H d v ∧ RepL ρ H ds r
end
end

structure Ext (ρ : List Addr) (H : Hp) (ρ' : List Addr) (H' : Hp) : Prop where
 pre : ∀ (i : Nat) (a : Addr),ρ[i]? = some a → ρ'[i]? = some a
 keep : ∀ b o,H b = some o → b ∉ ρ → H' b = some o
 new : ∀ b,b ∈ ρ' → b ∉ ρ → H b = none
theorem Ext.refl (ρ : List Addr) (H : Hp) : Ext ρ H ρ H := ⟨fun _ _ h => h,fun _ _ h _ => h,fun _ h n => absurd h n⟩
theorem Ext.out {ρ ρ' H H'} (e : Ext ρ H ρ' H') {b : Addr} {o : HO} (h : H b = some o) (n : b ∉ ρ) : b ∉ ρ' := fun z => by
 have := e.new b z n
 rw [h] at this; cases this
theorem Ext.trans {ρ ρ' ρ'' H H' H''} (a : Ext ρ H ρ' H') (b : Ext ρ' H' ρ'' H'') : Ext ρ H ρ'' H'' where
 pre := fun i x h => b.pre i x (a.pre i x h)
 keep := fun c o h n => b.keep c o (a.keep c o h n) (a.out h n)
 new := fun c h n => by
   by_cases z : c ∈ ρ'
   · exact a.new c z n
   · cases q : H c with
     | none => rfl
     | some o =>
       have := a.keep c o q n
       rw [b.new c h z] at this; cases this

section
variable {K : PySem.W.Frag} {mg : Str → Option Value} {ρ ρ' : List Addr} {H H' : Hp}
theorem TupAt.mono {p vs} (h : TupAt K ρ H p vs) (e : Ext ρ H ρ' H') : TupAt K ρ' H' p vs := by
 rcases h with ⟨n,h | ⟨o,h⟩⟩ | h
 · exact .inl ⟨e.out h n,.inl (e.keep _ _ h n)⟩
 · exact .inl ⟨e.out h n,.inr ⟨o,e.keep _ _ h n⟩⟩
 · exact .inr h
theorem LstAt.mono {p vs} (h : LstAt K ρ H p vs) (e : Ext ρ H ρ' H') : LstAt K ρ' H' p vs := by
 rcases h with ⟨n,h | ⟨o,h⟩⟩ | h
 · exact .inl ⟨e.out h n,.inl (e.keep _ _ h n)⟩
 · exact .inl ⟨e.out h n,.inr ⟨o,e.keep _ _ h n⟩⟩
 · exact .inr h
theorem LamAt.mono {t a} (h : LamAt ρ H t a) (e : Ext ρ H ρ' H') : LamAt ρ' H' t a := by
 obtain ⟨n,c,pm,ct,nc,h1,h2⟩ := h
 exact ⟨e.out h1 n,c,pm,ct,e.out h2 nc,e.keep _ _ h1 n,e.keep _ _ h2 nc⟩
theorem Cells.mono (e : Ext ρ H ρ' H') : ∀ {xs : List Str} {us : List V} {cl : List (Str × Addr)},Cells ρ H xs us cl → Cells ρ' H' xs us cl
 | [],[],[],_ => trivial
 | x :: xs,u :: us,p :: cl,h => by
   obtain ⟨h1,h2,⟨o,w,h3,h4⟩,h5⟩ := h
   exact ⟨h1,e.out h3 h2,⟨o,w,e.keep _ _ h3 h2,h4⟩,Cells.mono e h5⟩
 | [],[],_ :: _,h => h.elim
 | [],_ :: _,_,h => h.elim
 | _ :: _,[],_,h => h.elim
 | _ :: _,_ :: _,[],h => h.elim
theorem CloAt.mono {t us a} (h : CloAt ρ H t us a) (e : Ext ρ H ρ' H') : CloAt ρ' H' t us a := by
 obtain ⟨n,c,pm,ct,cl,nc,h1,h2,h3,h4⟩ := h
 exact ⟨e.out h1 n,c,pm,ct,cl,e.out h2 nc,e.keep _ _ h1 n,e.keep _ _ h2 nc,h3,h4.mono e⟩
mutual
theorem Rep.mono (e : Ext ρ H ρ' H') : ∀ {d : D} {v : V},Rep K mg ρ H d v → Rep K mg ρ' H' d v
 | .non,_,h => h
 | .bl _,_,h => h
 | .int _,_,h => h
 | .str _,_,h => h
 | .fn _,_,h => h
 | .ty _,_,h => h
 | .tup ds,_,h => by
   unfold Rep at h ⊢
   obtain ⟨p,vs,e1,t,r⟩ := h
   exact ⟨p,vs,e1,t.mono e,RepL.mono e r⟩
 | .lst ds,_,h => by
   unfold Rep at h ⊢
   obtain ⟨p,vs,e1,t,r⟩ := h
   exact ⟨p,vs,e1,t.mono e,RepL.mono e r⟩
 | .obj i,_,h => by
   unfold Rep at h ⊢
   obtain ⟨a,e1,t⟩ := h
   exact ⟨a,e1,e.pre _ _ t⟩
 | .lam t,_,h => by
   unfold Rep at h ⊢
   obtain ⟨a,e1,t⟩ := h
   exact ⟨a,e1,t.mono e⟩
 | .clo t vs,_,h => by
   unfold Rep at h ⊢
   obtain ⟨a,us,e1,t,r⟩ := h
   exact ⟨a,us,e1,t.mono e,RepL.mono e r⟩
theorem RepL.mono (e : Ext ρ H ρ' H') : ∀ {ds : List D} {vs : List V},RepL K mg ρ H ds vs → RepL K mg ρ' H' ds vs
 | [],_,h => h
 | d :: ds,_,h => by
   unfold RepL at h ⊢
   obtain ⟨v,r,e1,h1,h2⟩ := h
   exact ⟨v,r,e1,Rep.mono e h1,RepL.mono e h2⟩
end
theorem RepL.nil : RepL K mg ρ H [] [] := by unfold RepL; rfl
theorem RepL.cons {d ds v vs} (h : Rep K mg ρ H d v) (t : RepL K mg ρ H ds vs) : RepL K mg ρ H (d :: ds) (v :: vs) := by
 unfold RepL; exact ⟨v,vs,rfl,h,t⟩
theorem RepL.length : ∀ {ds : List D} {vs : List V},RepL K mg ρ H ds vs → ds.length = vs.length
 | [],_,h => by unfold RepL at h; subst h; rfl
 | d :: ds,_,h => by
   unfold RepL at h
   obtain ⟨v,r,rfl,_,h2⟩ := h
   rw [List.length_cons,List.length_cons,h2.length]
theorem RepL.get : ∀ {ds : List D} {vs : List V} {i : Nat} {d : D},RepL K mg ρ H ds vs → ds[i]? = some d → ∃ v,vs[i]? = some v ∧ Rep K mg ρ H d v
 | [],_,_,_,_,e => by simp at e
 | d :: ds,_,0,x,h,e => by
   unfold RepL at h
   obtain ⟨v,r,rfl,h1,_⟩ := h
   simp at e; subst e
   exact ⟨v,rfl,h1⟩
 | d :: ds,_,i + 1,x,h,e => by
   unfold RepL at h
   obtain ⟨v,r,rfl,_,h2⟩ := h
   obtain ⟨u,e1,e2⟩ := RepL.get (i := i) (d := x) h2 (by simpa using e)
   exact ⟨u,by simpa using e1,e2⟩
theorem RepL.append : ∀ {ds es : List D} {vs us : List V},RepL K mg ρ H ds vs → RepL K mg ρ H es us → RepL K mg ρ H (ds ++ es) (vs ++ us)
 | [],_,_,_,h,t => by unfold RepL at h; subst h; exact t
 | d :: ds,_,_,_,h,t => by
   unfold RepL at h
   obtain ⟨v,r,rfl,h1,h2⟩ := h
   exact RepL.cons h1 (RepL.append h2 t)
theorem RepL.take : ∀ {ds : List D} {vs : List V} (n : Nat),RepL K mg ρ H ds vs → RepL K mg ρ H (ds.take n) (vs.take n)
 | _,_,0,_ => by simpa using RepL.nil
 | [],_,_ + 1,h => by unfold RepL at h; subst h; simpa using RepL.nil
 | d :: ds,_,n + 1,h => by
   unfold RepL at h
   obtain ⟨v,r,rfl,h1,h2⟩ := h
   exact RepL.cons h1 (RepL.take n h2)
theorem RepL.drop : ∀ {ds : List D} {vs : List V} (n : Nat),RepL K mg ρ H ds vs → RepL K mg ρ H (ds.drop n) (vs.drop n)
 | _,_,0,h => by simpa using h
 | [],_,_ + 1,h => by unfold RepL at h; subst h; simpa using RepL.nil
 | d :: ds,_,n + 1,h => by
   unfold RepL at h
   obtain ⟨v,r,rfl,h1,h2⟩ := h
   simpa using RepL.drop n h2
end

def RepF (K : PySem.W.Frag) (mg : Str → Option Value) (ρ : List Addr) (H : Hp) (fs : List (Str × D)) (vs : List (Str × V)) : Prop :=
 vs.map (·.1) = fs.map (·.1) ∧ RepL K mg ρ H (fs.map (·.2)) (vs.map (·.2))
def TabOf (K : PySem.W.Frag) (mg : Str → Option Value) (x : Str) (a : Addr) : Prop := ∃ (f : Addr) (o : Obj) (fd : FuncData) (c : Addr),mg x = some (.ref f) ∧ K.lookup f = some o ∧ o.data = .func fd ∧ fd.code = .ref c ∧ PySem.W.codeHdIn K c a = true
def MOk (K : PySem.W.Frag) (mg : Str → Option Value) (ρ : List Addr) (H : Hp) (a : Addr) : MO → Prop
 | .lst ds => ∃ vs,H a = some (.lst vs) ∧ RepL K mg ρ H ds vs
 | .ins c fs => ∃ C dx vs,mg c = some (.ref C) ∧ H a = some (.ins C dx vs) ∧ RepF K mg ρ H fs vs
 | .dct kvs => ∃ vs : List (Key × V),H a = some (.dK vs) ∧ vs.map (·.1) = kvs.map (fun p => Sum.inl p.1) ∧ RepL K mg ρ H (kvs.map (·.2)) (vs.map (·.2))
 | .exc c => ∃ C,mg c = some (.ref C) ∧ H a = some (.ext fun h => ∃ o,h.get? a = some o ∧ o.cls = .ref C)
 | .tab x q => TabOf K mg x a ∧ ∃ ps : Array Value,H a = some (.tbl ps) ∧ TriplesOk ps.toList ∧ ∀ (pos : Pos) (cv : Value),codeAmong pos ps.toList = some cv → ∃ c,cv = .ref c ∧ c ∉ ρ ∧ H c = some (.ext (codeP c q))
structure StOk (K : PySem.W.Frag) (mg : Str → Option Value) (ρ : List Addr) (H : Hp) (S : Sto) : Prop where
 len : ρ.length = S.length
 nd : ρ.Nodup
 ob : ∀ (i : Nat) (m : MO) (a : Addr),S[i]? = some m → ρ[i]? = some a → MOk K mg ρ H a m
section
variable {K : PySem.W.Frag} {mg : Str → Option Value} {ρ ρ' : List Addr} {H H' : Hp} {S : Sto}
theorem MOk.mono {a m} (h : MOk K mg ρ H a m) (e : Ext ρ H ρ' H') (k : H' a = H a) : MOk K mg ρ' H' a m := by
 cases m with
 | lst ds => obtain ⟨vs,h1,h2⟩ := h; exact ⟨vs,k.trans h1,h2.mono e⟩
 | ins c fs => obtain ⟨C,dx,vs,h0,h1,h2,h3⟩ := h; exact ⟨C,dx,vs,h0,k.trans h1,h2,h3.mono e⟩
 | dct kvs => obtain ⟨vs,h1,h2,h3⟩ := h; exact ⟨vs,k.trans h1,h2,h3.mono e⟩
 | exc c => obtain ⟨C,h1,h2⟩ := h; exact ⟨C,h1,k.trans h2⟩
 | tab x q =>
   obtain ⟨h0,ps,h1,h2,h3⟩ := h
   exact ⟨h0,ps,k.trans h1,h2,fun pos cv z => let ⟨c,z1,z2,z3⟩ := h3 pos cv z; ⟨c,z1,e.out z3 z2,e.keep _ _ z3 z2⟩⟩
theorem MOk.some {a m} (h : MOk K mg ρ H a m) : ∃ o,H a = some o := by
 cases m with
 | lst ds => obtain ⟨vs,h1,h2⟩ := h; exact ⟨_,h1⟩
 | ins c fs => obtain ⟨C,dx,vs,h0,h1,h2,h3⟩ := h; exact ⟨_,h1⟩
 | dct kvs => obtain ⟨vs,h1,h2,h3⟩ := h; exact ⟨_,h1⟩
 | exc c => obtain ⟨C,h1,h2⟩ := h; exact ⟨_,h2⟩
 | tab x q => obtain ⟨_,ps,h1,_⟩ := h; exact ⟨_,h1⟩
theorem StOk.at (s : StOk K mg ρ H S) {i : Nat} {a : Addr} (h : ρ[i]? = some a) : ∃ m,S[i]? = some m ∧ MOk K mg ρ H a m := by
 have hi : i < ρ.length := (List.getElem?_eq_some_iff.mp h).1
 have hj : i < S.length := by rw [← s.len]; exact hi
 exact ⟨S[i],List.getElem?_eq_getElem hj,s.ob i _ a (List.getElem?_eq_getElem hj) h⟩
theorem StOk.adr (s : StOk K mg ρ H S) {i : Nat} {m : MO} (h : S[i]? = some m) : ∃ a,ρ[i]? = some a ∧ MOk K mg ρ H a m := by
 have hi : i < S.length := (List.getElem?_eq_some_iff.mp h).1
 have hj : i < ρ.length := by rw [s.len]; exact hi
 exact ⟨ρ[i],List.getElem?_eq_getElem hj,s.ob i m _ h (List.getElem?_eq_getElem hj)⟩
theorem StOk.mem (s : StOk K mg ρ H S) {a} (h : a ∈ ρ) : ∃ o,H a = some o := by
 obtain ⟨i,hi,e⟩ := List.mem_iff_getElem.mp h
 obtain ⟨m,_,q⟩ := s.at (i := i) (a := a) (by rw [List.getElem?_eq_getElem hi,e])
 exact q.some
theorem StOk.fresh (s : StOk K mg ρ H S) {p} (h : H p = none) : p ∉ ρ := fun z => by
 obtain ⟨o,e⟩ := s.mem z
 rw [h] at e; cases e
theorem ext_new (s : StOk K mg ρ H S) {p : Addr} (o : HO) (h : H p = none) : Ext ρ H ρ (upd H p o) :=
 ⟨fun _ _ e => e,fun b u e _ => by rw [upd_ne (ne_of_none e h)]; exact e,fun _ z n => absurd z n⟩
theorem StOk.new (s : StOk K mg ρ H S) {p : Addr} (o : HO) (h : H p = none) : StOk K mg ρ (upd H p o) S :=
 ⟨s.len,s.nd,fun i m a e1 e2 => by
   have q := s.ob i m a e1 e2
   obtain ⟨u,z⟩ := q.some
   exact q.mono (ext_new s o h) (upd_ne (ne_of_none z h))⟩
theorem ext_set (s : StOk K mg ρ H S) {i : Nat} {a : Addr} (o : HO) (h : ρ[i]? = some a) : Ext ρ H ρ (upd H a o) :=
 ⟨fun _ _ e => e,fun b u e n => by rw [upd_ne (fun (z : b = a) => n (by rw [z]; exact List.mem_of_getElem? h))]; exact e,fun _ z n => absurd z n⟩
theorem nodup_at {l : List Addr} (hN : l.Nodup) {i j : Nat} {x : Addr} (a : l[i]? = some x) (b : l[j]? = some x) : i = j := by
 obtain ⟨h1,e1⟩ := List.getElem?_eq_some_iff.mp a
 obtain ⟨h2,e2⟩ := List.getElem?_eq_some_iff.mp b
 exact (List.getElem_inj hN).mp (e1.trans e2.symm)
theorem StOk.set (s : StOk K mg ρ H S) {i : Nat} {a : Addr} {o : HO} {m : MO} (h : ρ[i]? = some a) (q : MOk K mg ρ (upd H a o) a m) : StOk K mg ρ (upd H a o) (S.set i m) := by
 refine ⟨by rw [List.length_set]; exact s.len,s.nd,fun j m' b e1 e2 => ?_⟩
 by_cases hj : j = i
 · subst hj
   have hi : j < S.length := by rw [← s.len]; exact (List.getElem?_eq_some_iff.mp h).1
   rw [List.getElem?_set_self hi] at e1
   cases e1
   rw [h] at e2; cases e2
   exact q
 · rw [List.getElem?_set_ne (Ne.symm hj)] at e1
   exact (s.ob j m' b e1 e2).mono (ext_set s o h) (upd_ne fun z => hj (nodup_at s.nd (z ▸ e2) h))
theorem ext_add (s : StOk K mg ρ H S) {p : Addr} (o : HO) (h : H p = none) : Ext ρ H (ρ ++ [p]) (upd H p o) :=
 ⟨fun i a e => by rw [List.getElem?_append_left (List.getElem?_eq_some_iff.mp e).1]; exact e,fun b u e _ => by rw [upd_ne (ne_of_none e h)]; exact e,
   fun b z n => by
     rcases List.mem_append.mp z with z | z
     · exact absurd z n
     · rw [List.mem_singleton.mp z]; exact h⟩
theorem StOk.add (s : StOk K mg ρ H S) {p : Addr} {o : HO} {m : MO} (h : H p = none) (q : MOk K mg (ρ ++ [p]) (upd H p o) p m) : StOk K mg (ρ ++ [p]) (upd H p o) (S ++ [m]) := by
 refine ⟨by rw [List.length_append,List.length_append,s.len] <;> rfl,?_,fun j m' b e1 e2 => ?_⟩
 · rw [List.nodup_append]
   refine ⟨s.nd,by simp,fun x hx y hy => ?_⟩
   rw [List.mem_singleton.mp hy]
   exact fun z => s.fresh h (z ▸ hx)
 · by_cases hj : j < S.length
   · rw [List.getElem?_append_left hj] at e1
     rw [List.getElem?_append_left (by rw [s.len]; exact hj)] at e2
     have q := s.ob j m' b e1 e2
     obtain ⟨u,z⟩ := q.some
     exact q.mono (ext_add s o h) (upd_ne (ne_of_none z h))
   · rw [List.getElem?_append_right (by omega)] at e1
     rw [List.getElem?_append_right (by rw [s.len]; omega)] at e2
     have e0 : j - S.length = 0 := by
       have := (List.getElem?_eq_some_iff.mp e1).1
       simp at this; omega
     rw [e0] at e1
     rw [s.len,e0] at e2
     simp at e1 e2
     subst e1 e2
     exact q
theorem Rep.tup {p ds vs} {s : StOk K mg ρ H S} (h : H p = none) (r : RepL K mg ρ H ds vs) : Rep K mg ρ (upd H p (.tup vs)) (.tup ds) (.ref p) := by
 unfold Rep
 exact ⟨p,vs,rfl,.inl ⟨s.fresh h,.inl upd_same⟩,r.mono (ext_new s _ h)⟩
theorem Rep.lst {p ds vs} {s : StOk K mg ρ H S} (h : H p = none) (r : RepL K mg ρ H ds vs) : Rep K mg ρ (upd H p (.lst vs)) (.lst ds) (.ref p) := by
 unfold Rep
 exact ⟨p,vs,rfl,.inl ⟨s.fresh h,.inl upd_same⟩,r.mono (ext_new s _ h)⟩
end

structure EnvR (K : PySem.W.Frag) (mg : Str → Option Value) (ρ : List Addr) (H : Hp) (ev : Ev) (σ : St) : Prop where
 len : ev.length = σ.length
 at_ : ∀ (i : Nat) (d : D),ev[i]? = some (some d) → ∃ v,σ[i]? = some (some v) ∧ Rep K mg ρ H d v
section
variable {K : PySem.W.Frag} {mg : Str → Option Value} {ρ ρ' : List Addr} {H H' : Hp} {ev : Ev} {σ : St}
theorem EnvR.mono (h : EnvR K mg ρ H ev σ) (e : Ext ρ H ρ' H') : EnvR K mg ρ' H' ev σ :=
 ⟨h.len,fun i d q => let ⟨v,a,b⟩ := h.at_ i d q; ⟨v,a,b.mono e⟩⟩
theorem EnvR.set (h : EnvR K mg ρ H ev σ) {d v} (r : Rep K mg ρ H d v) (i : Nat) : EnvR K mg ρ H (ev.set i (some d)) (σ.set i (some v)) := by
 refine ⟨by rw [List.length_set,List.length_set]; exact h.len,fun j x q => ?_⟩
 by_cases hj : j = i
 · subst hj
   have hi : j < ev.length := by
     have := (List.getElem?_eq_some_iff.mp q).1
     rwa [List.length_set] at this
   rw [List.getElem?_set_self hi] at q
   cases q
   exact ⟨v,by rw [List.getElem?_set_self (by rw [← h.len]; exact hi)],r⟩
 · rw [List.getElem?_set_ne (Ne.symm hj)] at q ⊢
   exact h.at_ j x q
theorem EnvR.start {N : List Str} {ds : List D} {vs : List V} (h : RepL K mg ρ H ds vs) : EnvR K mg ρ H (ds.map some ++ List.replicate (N.length - ds.length) none) (L2.start N vs) := by
 have hl := h.length
 refine ⟨by unfold L2.start; simp [hl],fun i d q => ?_⟩
 have hi : i < ds.length := by
   by_cases hi : i < ds.length
   · exact hi
   · rw [List.getElem?_append_right (by simpa using hi),List.getElem?_replicate] at q
     split at q <;> cases q
 rw [List.getElem?_append_left (by simpa using hi),List.getElem?_map] at q
 cases e : ds[i]? with
 | none => rw [e] at q; cases q
 | some x =>
   rw [e] at q; cases q
   obtain ⟨v,e1,r⟩ := h.get e
   refine ⟨v,?_,r⟩
   unfold L2.start
   rw [List.getElem?_append_left (by simpa [← hl] using hi),List.getElem?_map,e1]
   rfl
end

section
variable (K : PySem.W.Frag) (mg : Str → Option Value)
def tE (f : E) : TE := fun σ H Q => ∃ ρ ev S d S',EnvR K mg ρ H ev σ ∧ StOk K mg ρ H S ∧ f ev S = some (d,S') ∧
 ∀ v ρ' H',Ext ρ H ρ' H' → StOk K mg ρ' H' S' → Rep K mg ρ' H' d v → Q v H'
def tB (f : B) : TT := fun σ H Q => ∃ ρ ev S b S',EnvR K mg ρ H ev σ ∧ StOk K mg ρ H S ∧ f ev S = some (b,S') ∧
 ∀ ρ' H',Ext ρ H ρ' H' → StOk K mg ρ' H' S' → Q b H'
def tAs (f : As) : TA := fun σ H Q => ∃ ρ ev S ds S',EnvR K mg ρ H ev σ ∧ StOk K mg ρ H S ∧ f ev S = some (ds,S') ∧
 ∀ vs ρ' H',Ext ρ H ρ' H' → StOk K mg ρ' H' S' → RepL K mg ρ' H' ds vs → Q vs H'
def Post (D : Ends) (S' : Sto) (ρ : List Addr) (H : Hp) : Out → Prop
 | .nx e => ∀ σ' ρ' H',Ext ρ H ρ' H' → StOk K mg ρ' H' S' → EnvR K mg ρ' H' e σ' → D.nx σ' H'
 | .bk e => ∀ σ' ρ' H',Ext ρ H ρ' H' → StOk K mg ρ' H' S' → EnvR K mg ρ' H' e σ' → D.bk σ' H'
 | .ct e => ∀ σ' ρ' H',Ext ρ H ρ' H' → StOk K mg ρ' H' S' → EnvR K mg ρ' H' e σ' → D.ct σ' H'
 | .rt d => ∀ v ρ' H',Ext ρ H ρ' H' → StOk K mg ρ' H' S' → Rep K mg ρ' H' d v → D.rt v H'
def tC (f : C) : TS := fun D σ H => ∃ ρ ev S o S',EnvR K mg ρ H ev σ ∧ StOk K mg ρ H S ∧ f ev S = some (o,S') ∧ Post K mg D S' ρ H o
def spG (g : G) : Sp := fun vs H Q _ => ∃ ρ ds S d S',RepL K mg ρ H ds vs ∧ StOk K mg ρ H S ∧ g ds S = some (d,S') ∧
 ∀ v ρ' H',Ext ρ H ρ' H' → StOk K mg ρ' H' S' → Rep K mg ρ' H' d v → Q v H'
end
theorem Post.ext {K mg} {D : Ends} {S' : Sto} {ρ ρ' H H'} (e : Ext ρ H ρ' H') : ∀ {o : Out},Post K mg D S' ρ H o → Post K mg D S' ρ' H' o
 | .nx _,h => fun σ' _ _ e' => h σ' _ _ (e.trans e')
 | .bk _,h => fun σ' _ _ e' => h σ' _ _ (e.trans e')
 | .ct _,h => fun σ' _ _ e' => h σ' _ _ (e.trans e')
 | .rt _,h => fun v _ _ e' => h v _ _ (e.trans e')

def FE (X : Cx) (e : Expr) (f : E) : Prop := PE X e (tE X.K X.mg f)
def FB (X : Cx) (e : Expr) (f : B) : Prop := PT X e (tB X.K X.mg f)
def FW (X : Cx) (e : Expr) (f : B) : Prop := PW X e (tB X.K X.mg f)
def FA (X : Cx) (es : List Expr) (f : As) : Prop := PA X es (tAs X.K X.mg f)
def FS (X : Cx) (st : Stmt) (f : C) : Prop := PS X st (tC X.K X.mg f)
def FSs (X : Cx) (st : List Stmt) (f : C) : Prop := PSs X st (tC X.K X.mg f)
theorem pe_mono {X : Cx} {e : Expr} {t t' : TE} (h : PE X e t) (m : ∀ σ H Q,t' σ H Q → t σ H Q) : PE X e t' := fun pins s σ H Q I q => h pins s σ H Q I (m _ _ _ q)
theorem pt_mono {X : Cx} {e : Expr} {t t' : TT} (h : PT X e t) (m : ∀ σ H Q,t' σ H Q → t σ H Q) : PT X e t' := fun pins s σ H Q I q => h pins s σ H Q I (m _ _ _ q)
theorem pw_mono {X : Cx} {e : Expr} {t t' : TT} (h : PW X e t) (m : ∀ σ H Q,t' σ H Q → t σ H Q) : PW X e t' := fun w pins s σ H Q I q => h w pins s σ H Q I (m _ _ _ q)
theorem pa_mono {X : Cx} {e : List Expr} {t t' : TA} (h : PA X e t) (m : ∀ σ H Q,t' σ H Q → t σ H Q) : PA X e t' := fun pos pins s σ H Q I q => h pos pins s σ H Q I (m _ _ _ q)
theorem ps_mono {X : Cx} {e : Stmt} {t t' : TS} (h : PS X e t) (m : ∀ σ H Q,t' Q σ H → t Q σ H) : PS X e t' := fun pins s σ H Q I q => h pins s σ H Q I (m _ _ _ q)
theorem pss_mono {X : Cx} {e : List Stmt} {t t' : TS} (h : PSs X e t) (m : ∀ σ H Q,t' Q σ H → t Q σ H) : PSs X e t' := fun pins s σ H Q I q => h pins s σ H Q I (m _ _ _ q)
end F
namespace F
open PySem L2

def eV (i : Nat) : E := fun ev S => match ev[i]? with
 | some (some d) => some (d,S)
 | _ => none
def eK (d : D) : E := fun _ S => some (d,S)
def e1 (op : D → Option D) (f : E) : E := fun ev S => (f ev S).bind fun p => (op p.1).map fun d => (d,p.2)
def e2 (op : D → D → Option D) (f g : E) : E := fun ev S => (f ev S).bind fun p => (g ev p.2).bind fun q => (op p.1 q.1).map fun d => (d,q.2)
def e2s (op : Sto → D → D → Option D) (f g : E) : E := fun ev S => (f ev S).bind fun p => (g ev p.2).bind fun q => (op q.2 p.1 q.1).map fun d => (d,q.2)
def aN : As := fun _ S => some ([],S)
def aC (f : E) (g : As) : As := fun ev S => (f ev S).bind fun p => (g ev p.2).bind fun q => some (p.1 :: q.1,q.2)
def eA (op : Sto → List D → Option D) (g : As) : E := fun ev S => (g ev S).bind fun q => (op q.2 q.1).map fun d => (d,q.2)
def eCall (g : G) (a : As) : E := fun ev S => (a ev S).bind fun q => g q.1 q.2
def insAt (c : Str) (S : Sto) : D → Option (Nat × List (Str × D))
 | .obj i => match S[i]? with
   | some (.ins c' fs) => if c' = c then some (i,fs) else none
   | _ => none
 | _ => none
def eMeth (c m : Str) (g : G) (f : E) (a : As) : E := fun ev S => (f ev S).bind fun p => (insAt c p.2 p.1).bind fun r => if r.2.lookup m = none then (a ev p.2).bind fun q => g (p.1 :: q.1) q.2 else none
def eMake (c : Str) (g : G) (a : As) : E := fun ev S => (a ev S).bind fun q => (g (.obj q.2.length :: q.1) (q.2 ++ [.ins c []])).bind fun r => match r.1 with
 | .non => some (.obj q.2.length,r.2)
 | _ => none
def eFld (c n : Str) (f : E) : E := fun ev S => (f ev S).bind fun p => (insAt c p.2 p.1).bind fun r => (r.2.lookup n).map fun d => (d,p.2)
def eNewL (g : As) : E := fun ev S => (g ev S).bind fun q => if q.1.length ≤ sizeLine then some (.obj q.2.length,q.2 ++ [.lst q.1]) else none
def eTup (g : As) : E := eA (fun _ ds => if ds.length ≤ sizeLine then some (.tup ds) else none) g
def eLst (g : As) : E := eA (fun _ ds => if ds.length ≤ sizeLine then some (.lst ds) else none) g
def bE (f : E) : B := fun ev S => (f ev S).bind fun p => match p.1 with
 | .bl b => some (b,p.2)
 | _ => none
def bNot (f : B) : B := fun ev S => (f ev S).map fun p => (!p.1,p.2)
def bAnd (f g : B) : B := fun ev S => (f ev S).bind fun p => if p.1 = true then g ev p.2 else some (false,p.2)
def bOr (f g : B) : B := fun ev S => (f ev S).bind fun p => if p.1 = true then some (true,p.2) else g ev p.2
def eNot (f : E) : E := e1 (fun d => match d with | .bl b => some (.bl !b) | _ => none) f
def eAnd (f g : E) : E := fun ev S => (f ev S).bind fun p => match p.1 with
 | .bl true => g ev p.2
 | .bl false => some (.bl false,p.2)
 | _ => none
def sNil : C := fun ev S => some (.nx ev,S)
def sSeq (a b : C) : C := fun ev S => (a ev S).bind fun p => match p.1 with
 | .nx e => b e p.2
 | o => some (o,p.2)
def sRet (f : E) : C := fun ev S => (f ev S).map fun p => (.rt p.1,p.2)
def sRetN : C := fun _ S => some (.rt .non,S)
def sDrop (f : E) : C := fun ev S => (f ev S).map fun p => (.nx ev,p.2)
def sSet (i : Nat) (f : E) : C := fun ev S => (f ev S).map fun p => (.nx (ev.set i (some p.1)),p.2)
def sPar (i j : Nat) (f : As) : C := fun ev S => (f ev S).bind fun p => match p.1 with
 | [a,b] => some (.nx ((ev.set i (some a)).set j (some b)),p.2)
 | _ => none
def setAll (ev : Ev) : List Nat → List D → Option Ev
 | [],[] => some ev
 | i :: is,d :: ds => setAll (ev.set i (some d)) is ds
 | _,_ => none
def sIf (c : B) (a b : C) : C := fun ev S => (c ev S).bind fun p => if p.1 = true then a ev p.2 else b ev p.2
def sNever : C := fun _ _ => none
def putD (n : Str) (d : D) : List (Str × D) → List (Str × D)
 | [] => [(n,d)]
 | (g,x) :: r => if g = n then (g,d) :: r else (g,x) :: putD n d r
def sFldS (c n : Str) (o v : E) : C := fun ev S => (v ev S).bind fun p => (o ev p.2).bind fun q => (insAt c q.2 q.1).bind fun r => if r.2.length < 1000 then some (.nx ev,q.2.set r.1 (.ins c (putD n p.1 r.2))) else none
def sItem (o i v : E) : C := fun ev S => (v ev S).bind fun p => (o ev p.2).bind fun q => (i ev q.2).bind fun r => match q.1,r.1 with
 | .obj a,.int k => (match r.2[a]? with
   | some (.lst ds) => (ixN ds.length k).map fun j => (.nx ev,r.2.set a (.lst (ds.set j p.1)))
   | _ => none)
 | _,_ => none
def sAppend (o v : E) : C := fun ev S => (o ev S).bind fun q => match q.1 with
 | .obj a => (match q.2[a]? with
   | some (.lst _) => (v ev q.2).bind fun p => (match p.2[a]? with
     | some (.lst ds) => if ds.length < sizeLine then some (.nx ev,p.2.set a (.lst (ds ++ [p.1]))) else none
     | _ => none)
   | _ => none)
 | _ => none
def loopF (i : Nat) (body : C) : List D → Ev → Sto → Option (Out × Sto)
 | [],ev,S => some (.nx ev,S)
 | d :: ds,ev,S => (body (ev.set i (some d)) S).bind fun p => match p.1 with
   | .nx e => loopF i body ds e p.2
   | .ct e => loopF i body ds e p.2
   | .bk e => some (.nx e,p.2)
   | .rt x => some (.rt x,p.2)
def sForL (i : Nat) (f : E) (body : C) : C := fun ev S => (f ev S).bind fun p => match p.1 with
 | .lst ds => loopF i body ds ev p.2
 | _ => none
def rangeD (lo : Int) (n : Nat) : List D := (List.range n).map fun k : Nat => D.int (lo + (k : Int))
def sForR (i : Nat) (f : E) (body : C) : C := fun ev S => (f ev S).bind fun p => match p.1 with
 | .int j => if -(2 ^ 62) ≤ j ∧ j < 2 ^ 62 then loopF i body (rangeD 0 j.toNat) ev p.2 else none
 | _ => none
def sForR2 (i : Nat) (f g : E) (body : C) : C := fun ev S => (f ev S).bind fun p => (g ev p.2).bind fun q => match p.1,q.1 with
 | .int a,.int b => if -(2 ^ 62) ≤ a ∧ a < 2 ^ 62 ∧ -(2 ^ 62) ≤ b ∧ b < 2 ^ 62 then loopF i body (rangeD a (b - a).toNat) ev q.2 else none
 | _,_ => none
def whileF (c : B) (body : C) : Nat → Ev → Sto → Option (Out × Sto)
 | 0,_,_ => none
 | n + 1,ev,S => (c ev S).bind fun p => if p.1 = true then (body ev p.2).bind fun q => (match q.1 with
   | .nx e => whileF c body n e q.2
   | .ct e => whileF c body n e q.2
   | .bk e => some (.nx e,q.2)
   | .rt x => some (.rt x,q.2)) else some (.nx ev,p.2)
def sWhile (n : Nat) (c : B) (body : C) : C := whileF c body n
def bodyF (N n : Nat) (c : C) : G := fun ds S => if ds.length = n then (match c (ds.map some ++ List.replicate (N - ds.length) none) S with
 | some (.nx _,S1) => some (.non,S1)
 | some (.rt d,S1) => some (d,S1)
 | _ => none) else none

theorem bindS {α β : Type} {o : Option α} {f : α → Option β} {b : β} (h : o.bind f = some b) : ∃ a,o = some a ∧ f a = some b := by
 cases o with
 | none => cases h
 | some a => exact ⟨a,rfl,h⟩
theorem mapS {α β : Type} {o : Option α} {f : α → β} {b : β} (h : o.map f = some b) : ∃ a,o = some a ∧ f a = b := by
 cases o with
 | none => cases h
 | some a => exact ⟨a,rfl,Option.some.inj h⟩
section
variable {X : Cx}
def Snd2 (K : PySem.W.Frag) (mg : Str → Option Value) (R : R2) (op : Sto → D → D → Option D) : Prop :=
 ∀ (ρ : List Addr) (H : Hp) (S : Sto) (x y : V) (dx dy d : D) (Q : VK),StOk K mg ρ H S → Rep K mg ρ H dx x → Rep K mg ρ H dy y → op S dx dy = some d →
   (∀ v H',Ext ρ H ρ H' → StOk K mg ρ H' S → Rep K mg ρ H' d v → Q v H') → R x y H Q
def SndA (K : PySem.W.Frag) (mg : Str → Option Value) (R : List V → Hp → VK → Prop) (op : Sto → List D → Option D) : Prop :=
 ∀ (ρ : List Addr) (H : Hp) (S : Sto) (xs : List V) (ds : List D) (d : D) (Q : VK),StOk K mg ρ H S → RepL K mg ρ H ds xs → op S ds = some d →
   (∀ v H',Ext ρ H ρ H' → StOk K mg ρ H' S → Rep K mg ρ H' d v → Q v H') → R xs H Q
section
variable {K : PySem.W.Frag} {mg : Str → Option Value} {R R' : R2} {op op' : Sto → D → D → Option D}
theorem t2 (hs : Snd2 K mg R op) {f g : E} {σ : St} {H : Hp} {Q : VK} (h : tE K mg (e2s op f g) σ H Q) : tOp R (tE K mg f) (tE K mg g) σ H Q := by
 obtain ⟨ρ,ev,S,d,S',hE,hS,hf,k⟩ := h
 obtain ⟨⟨x,S1⟩,q1,hf⟩ := bindS hf
 obtain ⟨⟨y,S2⟩,q2,hf⟩ := bindS hf
 obtain ⟨z,q3,hf⟩ := mapS hf
 cases hf
 refine ⟨ρ,ev,S,x,S1,hE,hS,q1,fun v ρ1 H1 E1 hS1 r1 => ⟨ρ1,ev,S1,y,S2,hE.mono E1,hS1,q2,fun u ρ2 H2 E2 hS2 r2 => ?_⟩⟩
 exact hs ρ2 H2 _ v u x y _ Q hS2 (r1.mono E2) r2 q3 fun w H' E3 hS3 r3 => k w ρ2 H' ((E1.trans E2).trans E3) hS3 r3
end
theorem fe_bin {o : Operator} {R : R2} {op : Sto → D → D → Option D} {a b : Expr} {f g : E} {pos : Pos} (ho : OpR X (binaryOp o) R) (hs : Snd2 X.K X.mg R op) (ha : FE X a f) (hb : FE X b g) : FE X (.BinOp a o b pos) (e2s op f g) :=
 pe_mono (pe_op ho ha hb) fun _ _ _ h => t2 hs h
theorem fe_cmp {o : CmpOp} {R : R2} {op : Sto → D → D → Option D} {a b : Expr} {f g : E} {pos : Pos} (ho : OpR X (compareOp o) R) (hs : Snd2 X.K X.mg R op) (ha : FE X a f) (hb : FE X b g) (hm : behindInMarks o b = false) : FE X (.Compare a [o] [b] pos) (e2s op f g) :=
 pe_mono (pe_cmpR ho ha hb hm) fun _ _ _ h => t2 hs h
theorem tb_of {K mg} {f : E} {t : TE} {σ : St} {H : Hp} {Q : Bool → Hp → Prop} (m : ∀ Q,tE K mg f σ H Q → t σ H Q) (h : tB K mg (bE f) σ H Q) : tTest t σ H Q := by
 obtain ⟨ρ,ev,S,b,S',hE,hS,hf,k⟩ := h
 obtain ⟨⟨x,S1⟩,q1,hf⟩ := bindS hf
 cases x with
 | bl c =>
   cases hf
   refine m _ ⟨ρ,ev,S,_,_,hE,hS,q1,fun v ρ1 H1 E1 hS1 r1 => ?_⟩
   exact ⟨b,r1,k ρ1 H1 E1 hS1⟩
 | _ => cases hf
theorem fb_cmp {o : CmpOp} {R : R2} {op : Sto → D → D → Option D} {a b : Expr} {f g : E} {pos : Pos} (ho : OpR X (compareOp o) R) (hs : Snd2 X.K X.mg R op) (ha : FE X a f) (hb : FE X b g) (hm : behindInMarks o b = false) : FB X (.Compare a [o] [b] pos) (bE (e2s op f g)) :=
 pt_mono (pt_cmpR ho ha hb hm) fun _ _ _ h => tb_of (fun _ h => t2 hs h) h

theorem fe_v (i : Nat) {x : Str} {pos : Pos} (hN : X.N[i]? = some x := by rfl) (hv : Vis X.env.scope x := by first | exact Or.inl rfl | exact Or.inr (Or.inl rfl) | exact Or.inr (Or.inr rfl)) (hd : (x == ("__debug__" : Str)) = false := by decide)
   (hcd : (x == ("__classdict__" : Str)) = false := by decide) : FE X (.Name x pos) (eV i) :=
 pe_mono (pe_var hN hv hd hcd) fun σ H Q h => by
   obtain ⟨ρ,ev,S,d,S',hE,hS,hf,k⟩ := h
   unfold eV at hf
   split at hf
   · rename_i x e
     cases hf
     obtain ⟨v,e1,r⟩ := hE.at_ i _ e
     exact ⟨v,e1,k v ρ H (Ext.refl _ _) hS r⟩
   · cases hf
theorem fe_const {e : Expr} {v : V} {d : D} (h : PE X e (L2.tC v)) (r : ∀ ρ H,Rep X.K X.mg ρ H d v) : FE X e (eK d) :=
 pe_mono h fun σ H Q h => by
   obtain ⟨ρ,ev,S,d,S',hE,hS,hf,k⟩ := h
   cases hf
   exact k v ρ H (Ext.refl _ _) hS (r _ _)
theorem fe_int {i : Int} {j pos} : FE X (.Constant (.int i) j pos) (eK (.int i)) := fe_const pe_int fun _ _ => rfl
theorem fe_bl {b : Bool} {j pos} : FE X (.Constant (.bool b) j pos) (eK (.bl b)) := fe_const pe_bl fun _ _ => rfl
theorem fe_non {j pos} : FE X (.Constant .none j pos) (eK .non) := fe_const pe_non fun _ _ => rfl
theorem fe_str {x : Str} {j pos} : FE X (.Constant (.str x) j pos) (eK (.str x)) := fe_const pe_str fun _ _ => rfl
theorem fe_gi {x : Str} {n : Int} {pos : Pos} (hm : ∃ t,X.mg x = some (.int n t)) (hg : Gl X x := by rfl) (hd : (x == ("__debug__" : Str)) = false := by decide) : FE X (.Name x pos) (eK (.int n)) := by
 obtain ⟨t,hm⟩ := hm
 exact fe_const (pe_glob hg hm (v := .int n) ⟨t,rfl⟩ hd) fun _ _ => rfl
theorem fa_nil : FA X [] aN := pa_mono pa_nil fun σ H Q h => by
 obtain ⟨ρ,ev,S,d,S',hE,hS,hf,k⟩ := h
 cases hf
 exact k [] ρ H (Ext.refl _ _) hS RepL.nil
theorem fa_cons {e : Expr} {es : List Expr} {f : E} {g : As} (ha : FE X e f) (hr : FA X es g) (hs : starEach (e :: es) X.env = (false,eval e X.env) :: starEach es X.env := by exact star_cons rfl) : FA X (e :: es) (aC f g) :=
 pa_mono (pa_cons ha hr hs) fun σ H Q h => by
   obtain ⟨ρ,ev,S,d,S',hE,hS,hf,k⟩ := h
   obtain ⟨⟨x,S1⟩,q1,hf⟩ := bindS hf
   obtain ⟨⟨y,S2⟩,q2,hf⟩ := bindS hf
   cases hf
   refine ⟨ρ,ev,S,x,S1,hE,hS,q1,fun v ρ1 H1 E1 hS1 r1 => ⟨ρ1,ev,S1,y,_,hE.mono E1,hS1,q2,fun vs ρ2 H2 E2 hS2 r2 => ?_⟩⟩
   exact k (v :: vs) ρ2 H2 (E1.trans E2) hS2 (RepL.cons (r1.mono E2) r2)
theorem tA {K mg} {R : List V → Hp → VK → Prop} {op : Sto → List D → Option D} (hs : SndA K mg R op) {g : As} {σ : St} {H : Hp} {Q : VK} (h : tE K mg (eA op g) σ H Q) : tAs K mg g σ H fun vs H1 => R vs H1 Q := by
 obtain ⟨ρ,ev,S,d,S',hE,hS,hf,k⟩ := h
 obtain ⟨⟨x,S1⟩,q1,hf⟩ := bindS hf
 obtain ⟨z,q3,hf⟩ := mapS hf
 cases hf
 exact ⟨ρ,ev,S,x,_,hE,hS,q1,fun vs ρ1 H1 E1 hS1 r1 => hs ρ1 H1 _ vs x _ Q hS1 r1 q3 fun w H' E3 hS3 r3 => k w ρ1 H' (E1.trans E3) hS3 r3⟩
theorem fe_tup {es : List Expr} {g : As} {x1 pos} (h : FA X es g) : FE X (.Tuple es x1 pos) (eTup g) :=
 pe_mono (pe_tup h) fun σ H Q h => tA (K := X.K) (mg := X.mg) (R := fun xs H1 Q => xs.length ≤ sizeLine ∧ ∀ p,H1 p = none → Q (.ref p) (upd H1 p (.tup xs))) (fun ρ H S xs ds d Q hS r e k => by
   split at e
   · rename_i hl
     cases e
     exact ⟨by rw [← r.length]; exact hl,fun p hp => k _ _ (ext_new hS _ hp) (hS.new _ hp) (Rep.tup (s := hS) hp r)⟩
   · cases e) h
theorem fe_lst {es : List Expr} {g : As} {pos} (h : FA X es g) : FE X (.List es pos) (eLst g) :=
 pe_mono (pe_lst h) fun σ H Q h => tA (K := X.K) (mg := X.mg) (R := fun xs H1 Q => xs.length ≤ sizeLine ∧ ∀ p,H1 p = none → Q (.ref p) (upd H1 p (.lst xs))) (fun ρ H S xs ds d Q hS r e k => by
   split at e
   · rename_i hl
     cases e
     exact ⟨by rw [← r.length]; exact hl,fun p hp => k _ _ (ext_new hS _ hp) (hS.new _ hp) (Rep.lst (s := hS) hp r)⟩
   · cases e) h
theorem fe_newL {es : List Expr} {g : As} {pos} (h : FA X es g) : FE X (.List es pos) (eNewL g) :=
 pe_mono (pe_lst h) fun σ H Q h => by
   obtain ⟨ρ,ev,S,d,S',hE,hS,hf,k⟩ := h
   obtain ⟨⟨x,S1⟩,q1,hf⟩ := bindS hf
   dsimp only at hf
   split at hf
   · rename_i hl
     cases hf
     refine ⟨ρ,ev,S,x,S1,hE,hS,q1,fun vs ρ1 H1 E1 hS1 r1 => ⟨by rw [← r1.length]; exact hl,fun p hp => ?_⟩⟩
     refine k _ _ _ (E1.trans (ext_add hS1 _ hp)) (hS1.add hp ⟨vs,upd_same,r1.mono (ext_add hS1 _ hp)⟩) ?_
     unfold Rep
     refine ⟨p,rfl,?_⟩
     rw [List.getElem?_append_right (by rw [hS1.len] <;> exact Nat.le_refl _),hS1.len]
     simp
   · cases hf
theorem fe_blt {id : String} {R : List V → Hp → VK → Prop} {op : Sto → List D → Option D} {x : Str} {p pos : Pos} {e : Expr} {es : List Expr} {g : As} (hc : CallR X (.builtin id) R) (hs : SndA X.K X.mg R op) (hm : X.mg x = none) (hv : bootBuiltins x = some (.builtin id)) (ha : FA X (e :: es) g)
   (hg : Gl X x := by rfl) (hn : x ≠ "__name__" := by decide) (hdb : (x == ("__debug__" : Str)) = false := by decide)
   (he : starEach (e :: es) X.env = (false,eval e X.env) :: starEach es X.env := by exact star_cons rfl) (hpl : (backTo pos (starEach es X.env)).any (·.1) = false := by exact back_any rfl) : FE X (.Call (.Name x p) (e :: es) [] pos) (eA op g) :=
 pe_mono (pe_callB hc hg hm hv ha hn hdb he hpl) fun σ H Q h => tA hs h
end
end F
namespace F
open PySem L2

structure Cal (P : Program) (w : World) (K : PySem.W.Frag) (mg : Str → Option Value) (base : Heap) (k : Nat) (x : Str) (g : G) : Prop where
 ex : ∃ (f : Addr) (fd : FuncData) (ps : List Str) (ds : List Value) (dvs : List V) (dds : List D) (gg : G),FnOk P w K mg base CX0 k f fd ps (spG K mg gg) ∧ mg x = some (.ref f) ∧ PySem.W.keepIn K (.ref f) = true ∧
   Binds K fd ps ds ∧ Vals dvs ds ∧ (∀ ρ H,RepL K mg ρ H dds dvs) ∧ ∀ args S r,g args S = some r → gg (args ++ dds) S = some r
theorem Cal.mono {P w K mg base j k x g} (c : Cal P w K mg base j x g) (h : j ≤ k) : Cal P w K mg base k x g := by
 obtain ⟨f,fd,ps,ds,dvs,dds,gg,F,r⟩ := c.ex
 exact ⟨f,fd,ps,ds,dvs,dds,gg,F.mono h,r⟩
structure Mth (P : Program) (w : World) (K : PySem.W.Frag) (mg : Str → Option Value) (base : Heap) (k : Nat) (c m : Str) (g : G) : Prop where
 ex : ∃ (C f : Addr) (fd : FuncData) (ps : List Str) (ds : List Value) (dvs : List V) (dds : List D) (gg : G),FnOk P w K mg base CX0 k f fd ps (spG K mg gg) ∧ mg c = some (.ref C) ∧ Cls K C ∧ Meth K C m f ∧
   Binds K fd ps ds ∧ Vals dvs ds ∧ (∀ ρ H,RepL K mg ρ H dds dvs) ∧ ∀ args S r,g args S = some r → gg (args ++ dds) S = some r
structure Mak (P : Program) (w : World) (K : PySem.W.Frag) (mg : Str → Option Value) (base : Heap) (k : Nat) (c : Str) (g : G) : Prop where
 ex : ∃ (C f : Addr) (fd : FuncData) (ps : List Str) (ds : List Value) (dvs : List V) (dds : List D) (gg : G),FnOk P w K mg base CX0 k f fd ps (spG K mg gg) ∧ mg c = some (.ref C) ∧ Mk K C f ∧
   Binds K fd ps ds ∧ Vals dvs ds ∧ (∀ ρ H,RepL K mg ρ H dds dvs) ∧ ∀ args S r,g args S = some r → gg (args ++ dds) S = some r
def Fld (K : PySem.W.Frag) (mg : Str → Option Value) (c n : Str) : Prop := ∀ C,mg c = some (.ref C) → Cls K C ∧ NoAttr K C n

section
variable {X : Cx} {k : Nat} {x c m n : Str} {g : G} {e o : Expr} {es : List Expr} {a : As} {f : E} {p pos apos : Pos}
theorem tcall_of {K mg} {gg : G} {dds : List D} {dvs : List V} (hdd : ∀ ρ H,RepL K mg ρ H dds dvs) (hg : ∀ args S r,g args S = some r → gg (args ++ dds) S = some r) {σ : St} {H : Hp} {Q : VK} (h : tE K mg (eCall g a) σ H Q) :
   tCall (spG K mg gg) dvs E0 (tAs K mg a) σ H Q := by
 obtain ⟨ρ,ev,S,d,S',hE,hS,hf,k⟩ := h
 obtain ⟨⟨ds,S1⟩,q1,hf⟩ := bindS hf
 exact ⟨ρ,ev,S,ds,S1,hE,hS,q1,fun vs ρ1 H1 E1 hS1 r1 => ⟨ρ1,ds ++ dds,S1,d,S',r1.append (hdd ρ1 H1),hS1,hg _ _ _ hf,fun v ρ' H' E' hS' r' => k v ρ' H' (E1.trans E') hS' r'⟩⟩
theorem fe_call (cal : Cal X.prog X.w X.K X.mg X.base k x g) (hr : Room k X.A) (ha : FA X (e :: es) a) (hg : Gl X x := by rfl) (hdb : (x == ("__debug__" : Str)) = false := by decide)
   (he : starEach (e :: es) X.env = (false,eval e X.env) :: starEach es X.env := by exact star_cons rfl) (hpl : (backTo pos (starEach es X.env)).any (·.1) = false := by exact back_any rfl) :
   FE X (.Call (.Name x p) (e :: es) [] pos) (eCall g a) := by
 obtain ⟨f,fd,ps,ds,dvs,dds,gg,F,hm,hk,hb,hd,hdd,hgg⟩ := cal.ex
 exact pe_mono (pe_call F hr hg hm hk hb hd pass0 ha hdb he hpl) fun σ H Q h => tcall_of hdd hgg h
theorem insAt_eq {c : Str} {S : Sto} {d : D} {r : Nat × List (Str × D)} (h : insAt c S d = some r) : d = .obj r.1 ∧ S[r.1]? = some (.ins c r.2) := by
 unfold insAt at h
 split at h
 · split at h
   · rename_i i _ c' fs e
     split at h
     · rename_i hc
       cases h
       subst hc
       exact ⟨rfl,e⟩
     · cases h
   · cases h
 · cases h
theorem rep_obj {K mg ρ H S} (hS : StOk K mg ρ H S) {c : Str} {i : Nat} {fs : List (Str × D)} {v : V} (h : S[i]? = some (.ins c fs)) (r : Rep K mg ρ H (.obj i) v) :
   ∃ b C dx vs,v = .ref b ∧ ρ[i]? = some b ∧ mg c = some (.ref C) ∧ H b = some (.ins C dx vs) ∧ RepF K mg ρ H fs vs := by
 unfold Rep at r
 obtain ⟨b,rfl,e⟩ := r
 obtain ⟨C,dx,vs,h1,h2,h3⟩ := hS.ob i _ b h e
 exact ⟨b,C,dx,vs,rfl,e,h1,h2,h3⟩
theorem lookup_none {fs : List (Str × D)} {vs : List (Str × V)} {m : Str} (h : vs.map (·.1) = fs.map (·.1)) (e : fs.lookup m = none) : vs.lookup m = none := by
 induction fs generalizing vs with
 | nil =>
   cases vs with
   | nil => rfl
   | cons _ _ => cases h
 | cons q fs ih =>
   cases vs with
   | nil => cases h
   | cons q' vs =>
     obtain ⟨a,b⟩ := q
     obtain ⟨a',b'⟩ := q'
     simp only [List.map_cons,List.cons.injEq] at h
     obtain ⟨h1,h2⟩ := h
     subst h1
     simp only [List.lookup] at e ⊢
     split at e
     · cases e
     · exact ih h2 e
theorem lookup_some {K mg ρ H} {fs : List (Str × D)} {vs : List (Str × V)} {m : Str} {d : D} (h : RepF K mg ρ H fs vs) (e : fs.lookup m = some d) : ∃ v,vs.lookup m = some v ∧ Rep K mg ρ H d v := by
 obtain ⟨h,r⟩ := h
 induction fs generalizing vs with
 | nil => cases e
 | cons q fs ih =>
   cases vs with
   | nil => cases h
   | cons q' vs =>
     obtain ⟨a,b⟩ := q
     obtain ⟨a',b'⟩ := q'
     simp only [List.map_cons,List.cons.injEq] at h
     obtain ⟨h1,h2⟩ := h
     subst h1
     rw [List.map_cons,List.map_cons] at r
     unfold RepL at r
     obtain ⟨u,t,e1,r1,r2⟩ := r
     cases e1
     simp only [List.lookup] at e ⊢
     split at e
     · cases e; exact ⟨_,rfl,r1⟩
     · exact ih e h2 r2
theorem fe_meth (mt : Mth X.prog X.w X.K X.mg X.base k c m g) (hr : Room k X.A) (ho : FE X o f) (ha : FA X (e :: es) a) {pl : Sem Bool}
   (hst : starEach (e :: es) X.env = (false,eval e X.env) :: starEach es X.env := by exact star_cons rfl) (hpl : (backTo pos (starEach es X.env)).any (·.1) = false := by exact back_any rfl)
   (ht : eval (.Call (.Attribute o m apos) (e :: es) [] pos) X.env = (do
     let ov ← eval o X.env
     standAt apos.atName
     let (f,first) ← holding [ov] (getMethod ov m pl)
     callWith pos f first (backTo pos (starEach (e :: es) X.env)) (backToKw pos (keywordEach [] X.env))) := by rfl) :
   FE X (.Call (.Attribute o m apos) (e :: es) [] pos) (eMeth c m g f a) := by
 obtain ⟨C,fa,fd,ps,ds,dvs,dds,gg,F,hm,hc,hme,hb,hd,hdd,hgg⟩ := mt.ex
 refine pe_mono (pe_meth ho hc hme F hr hb hd pass0 ha hst hpl ht) fun σ H Q h => ?_
 obtain ⟨ρ,ev,S,d,S',hE,hS,hf,k⟩ := h
 obtain ⟨⟨y,S1⟩,q1,hf⟩ := bindS hf
 obtain ⟨⟨i,fs⟩,q2,hf⟩ := bindS hf
 dsimp only at hf q2
 split at hf
 · rename_i hl
   obtain ⟨⟨ys,S2⟩,q3,hf⟩ := bindS hf
   obtain ⟨rfl,hi⟩ := insAt_eq q2
   refine ⟨ρ,ev,S,_,S1,hE,hS,q1,fun v ρ1 H1 E1 hS1 r1 => ?_⟩
   obtain ⟨b,C',dx,vs,rfl,hb1,hm',hb2,hb3⟩ := rep_obj hS1 hi r1
   have ec : C' = C := by rw [hm] at hm'; cases hm'; rfl
   subst ec
   refine ⟨b,dx,vs,rfl,hb2,lookup_none hb3.1 hl,ρ1,ev,S1,ys,S2,hE.mono E1,hS1,q3,fun us ρ2 H2 E2 hS2 r2 => ?_⟩
   exact ⟨ρ2,_,S2,d,S',(RepL.cons (r1.mono E2) r2).append (hdd ρ2 H2),hS2,hgg _ _ _ hf,fun v ρ' H' E' hS' r' => k v ρ' H' ((E1.trans E2).trans E') hS' r'⟩
 · cases hf
theorem tmake_of {K mg} {gg : G} {C : Addr} {dds : List D} {dvs : List V} (hm : mg c = some (.ref C)) (hdd : ∀ ρ H,RepL K mg ρ H dds dvs) (hg : ∀ args S r,g args S = some r → gg (args ++ dds) S = some r) {σ : St} {H : Hp} {Q : VK} (h : tE K mg (eMake c g a) σ H Q) :
   tMake C (spG K mg gg) dvs E0 (tAs K mg a) σ H Q := by
 obtain ⟨ρ,ev,S,d,S',hE,hS,hf,k⟩ := h
 obtain ⟨⟨ds,S1⟩,q1,hf⟩ := bindS hf
 obtain ⟨⟨y,S2⟩,q2,hf⟩ := bindS hf
 dsimp only at hf
 cases y with
 | non =>
   cases hf
   refine ⟨ρ,ev,S,ds,S1,hE,hS,q1,fun vs ρ1 H1 E1 hS1 r1 => fun x dx nx ndx ne => ?_⟩
   have s0 := hS1.new (.own x) ndx
   have nx' : upd H1 dx (.own x) x = none := by rw [upd_ne (Ne.symm ne)]; exact nx
   have e0 := ext_new hS1 (.own x) ndx
   have e1 := ext_add s0 (p := x) (.ins C dx []) nx'
   have s1 : StOk K mg (ρ1 ++ [x]) (upd (upd H1 dx (.own x)) x (.ins C dx [])) (S1 ++ [.ins c []]) := s0.add nx' ⟨C,dx,[],hm,upd_same,rfl,RepL.nil⟩
   have ro : Rep K mg (ρ1 ++ [x]) (upd (upd H1 dx (.own x)) x (.ins C dx [])) (.obj S1.length) (.ref x) := by
     unfold Rep
     refine ⟨x,rfl,?_⟩
     rw [List.getElem?_append_right (by rw [hS1.len] <;> exact Nat.le_refl _),hS1.len]
     simp
   refine ⟨ρ1 ++ [x],_,_,.non,_,RepL.cons ro ((r1.mono (e0.trans e1)).append (hdd _ _)),s1,hg _ _ _ q2,fun v ρ' H' E' hS' r' => ⟨r',?_⟩⟩
   exact k _ ρ' H' (E1.trans ((e0.trans e1).trans E')) hS' (ro.mono E')
 | _ => cases hf
theorem fe_make0 (mk : Mak X.prog X.w X.K X.mg X.base k c g) (hr : Room (k + 1) X.A) (hg : Gl X c := by rfl) (hdb : (c == ("__debug__" : Str)) = false := by decide) :
   FE X (.Call (.Name c p) [] [] pos) (eMake c g aN) := by
 obtain ⟨C,f,fd,ps,ds,dvs,dds,gg,F,hm,M,hb,hd,hdd,hgg⟩ := mk.ex
 refine pe_mono (pe_make0 M F hr hg hm hb hd pass0 hdb) fun σ H Q h => ?_
 have h' := tmake_of (C := C) (gg := gg) hm hdd hgg h
 obtain ⟨ρ,ev,S,d,S',hE,hS,hf,k⟩ := h'
 cases hf
 exact k [] ρ H (Ext.refl _ _) hS RepL.nil
theorem fe_fld (hc : Fld X.K X.mg c n) (ho : FE X o f) (hb : attributeBase o n X.env (eval o X.env) = eval o X.env := by rfl) : FE X (.Attribute o n pos) (eFld c n f) :=
 pe_mono (pe_fld ho hb) fun σ H Q h => by
   obtain ⟨ρ,ev,S,d,S',hE,hS,hf,k⟩ := h
   obtain ⟨⟨y,S1⟩,q1,hf⟩ := bindS hf
   obtain ⟨⟨i,fs⟩,q2,hf⟩ := bindS hf
   obtain ⟨d',q3,hf⟩ := mapS hf
   cases hf
   obtain ⟨rfl,hi⟩ := insAt_eq q2
   refine ⟨ρ,ev,S,_,_,hE,hS,q1,fun v ρ1 H1 E1 hS1 r1 => ?_⟩
   obtain ⟨b,C,dx,vs,rfl,hb1,hm',hb2,hb3⟩ := rep_obj hS1 hi r1
   obtain ⟨v,e1,r2⟩ := lookup_some hb3 q3
   exact ⟨b,C,dx,vs,v,rfl,hb2,(hc C hm').1,(hc C hm').2,e1,k v ρ1 H1 E1 hS1 r2⟩
def eCallV (ft : Str → Option G) (f : E) (a : As) : E := fun ev S => (f ev S).bind fun p => match p.1 with
 | .fn x => (ft x).bind fun g => (a ev p.2).bind fun q => g q.1 q.2
 | _ => none
theorem fe_callV {fe : Expr} {ft : Str → Option G} (hT : ∀ x g,ft x = some g → Cal X.prog X.w X.K X.mg X.base k x g) (hr : Room k X.A) (hf : FE X fe f) (ha : FA X (e :: es) a)
   (ht : eval (.Call fe (e :: es) [] pos) X.env = (eval fe X.env >>= fun v => callWith pos v [] (backTo pos (starEach (e :: es) X.env)) (backToKw pos (keywordEach [] X.env))) := by rfl)
   (he : starEach (e :: es) X.env = (false,eval e X.env) :: starEach es X.env := by exact star_cons rfl) (hpl : (backTo pos (starEach es X.env)).any (·.1) = false := by exact back_any rfl) :
   FE X (.Call fe (e :: es) [] pos) (eCallV ft f a) := by
 intro pins s σ H Q I h
 rw [ht]
 obtain ⟨ρ,ev,S,d,S',hE,hS,hf',kk⟩ := h
 obtain ⟨⟨y,S1⟩,q1,hf'⟩ := bindS hf'
 cases y with
 | fn x =>
   dsimp only at hf'
   obtain ⟨g,hx,hf'⟩ := bindS hf'
   obtain ⟨f0,fd,ps,ds,dvs,dds,gg,F,hm,hk,hb,hd,hdd,hgg⟩ := (hT x g hx).ex
   refine wpAny_bind (thn (hf pins s σ H (fun v H1 => v = .ref f0 ∧ tCall (spG X.K X.mg gg) dvs E0 (tAs X.K X.mg a) σ H1 Q) I ⟨ρ,ev,S,_,S1,hE,hS,q1,fun v ρ1 H1 E1 hS1 r1 => ⟨?_,?_⟩⟩) fun u s1 ⟨v,H1,I1,rv,ev1,q⟩ => ?_)
   · unfold Rep at r1
     obtain ⟨b,rfl,e1⟩ := r1
     rw [hm] at e1; cases e1; rfl
   · exact tcall_of (g := g) hdd hgg ⟨ρ1,ev,S1,d,S',hE.mono E1,hS1,hf',fun v ρ' H' E' hS' r' => kk v ρ' H' (E1.trans E') hS' r'⟩
   · subst ev1
     obtain rfl : u = Value.ref f0 := rv
     refine PySem.W.callWith_K (h₀ := X.base) I.ok.mod.kin hk (thn (ha pos pins s1 σ H1 _ I1 q) fun us s2 ⟨vs,H2,I2,r,q2⟩ => ⟨I2.kIn,?_⟩) he hpl
     exact run_fn F hr hb hd pass0 I2 r q2
 | _ => cases hf'

theorem fb_val (h : FE X e f) (he : ∀ whole,isTrue e X.env whole = (do let v ← whole; standAt e.pos; holding [v] (truthy v)) := by intro _; rfl) : FB X e (bE f) :=
 pt_mono (pt_val h he) fun σ H Q h => by
   obtain ⟨ρ,ev,S,b,S',hE,hS,hf,k⟩ := h
   obtain ⟨⟨x,S1⟩,q1,hf⟩ := bindS hf
   cases x with
   | bl c =>
     cases hf
     exact ⟨ρ,ev,S,_,_,hE,hS,q1,fun v ρ1 H1 E1 hS1 r1 => ⟨b,r1,k ρ1 H1 E1 hS1⟩⟩
   | _ => cases hf
variable {b : Expr} {rest : List Expr} {u v : B}
theorem fb_not (h : FB X e u) : FB X (.UnaryOp .Not e pos) (bNot u) := pt_mono (pt_not h) fun σ H Q h => by
 obtain ⟨ρ,ev,S,b,S',hE,hS,hf,k⟩ := h
 obtain ⟨⟨x,S1⟩,q1,hf⟩ := mapS hf
 cases hf
 exact ⟨ρ,ev,S,_,_,hE,hS,q1,fun ρ1 H1 E1 hS1 => k ρ1 H1 E1 hS1⟩
theorem fw_and1 (h : FB X e u) : FW X (.BoolOp .And [e] pos) u := pw_and1 h
theorem fw_or1 (h : FB X e u) : FW X (.BoolOp .Or [e] pos) u := pw_or1 h
theorem fw_and (h : FB X e u) (hb : FW X (.BoolOp .And (b :: rest) pos) v) : FW X (.BoolOp .And (e :: b :: rest) pos) (bAnd u v) := pw_mono (pw_and h hb) fun σ H Q h => by
 obtain ⟨ρ,ev,S,b,S',hE,hS,hf,k⟩ := h
 obtain ⟨⟨x,S1⟩,q1,hf⟩ := bindS hf
 refine ⟨ρ,ev,S,x,S1,hE,hS,q1,fun ρ1 H1 E1 hS1 => ?_⟩
 cases x with
 | true => exact iteT ⟨ρ1,ev,S1,b,S',hE.mono E1,hS1,hf,fun ρ2 H2 E2 hS2 => k ρ2 H2 (E1.trans E2) hS2⟩
 | false => cases hf; exact iteF (k ρ1 H1 E1 hS1)
theorem fw_or (h : FB X e u) (hb : FW X (.BoolOp .Or (b :: rest) pos) v) : FW X (.BoolOp .Or (e :: b :: rest) pos) (bOr u v) := pw_mono (pw_or h hb) fun σ H Q h => by
 obtain ⟨ρ,ev,S,b,S',hE,hS,hf,k⟩ := h
 obtain ⟨⟨x,S1⟩,q1,hf⟩ := bindS hf
 refine ⟨ρ,ev,S,x,S1,hE,hS,q1,fun ρ1 H1 E1 hS1 => ?_⟩
 cases x with
 | true => cases hf; exact iteT (k ρ1 H1 E1 hS1)
 | false => exact iteF ⟨ρ1,ev,S1,b,S',hE.mono E1,hS1,hf,fun ρ2 H2 E2 hS2 => k ρ2 H2 (E1.trans E2) hS2⟩
theorem fb_w (h : FW X e u) : FB X e u := h.pt
variable {g1 g2 : E}
theorem fe_one {op} (h : FE X e g1) : FE X (.BoolOp op [e] pos) g1 := pe_one h
theorem fe_and (h : FE X e g1) (hb : FE X (.BoolOp .And (b :: rest) pos) g2) : FE X (.BoolOp .And (e :: b :: rest) pos) (eAnd g1 g2) := pe_mono (pe_and h hb) fun σ H Q h => by
 obtain ⟨ρ,ev,S,d,S',hE,hS,hf,k⟩ := h
 obtain ⟨⟨x,S1⟩,q1,hf⟩ := bindS hf
 refine ⟨ρ,ev,S,x,S1,hE,hS,q1,fun w ρ1 H1 E1 hS1 r1 => ?_⟩
 cases x with
 | bl c =>
   refine ⟨c,r1,?_⟩
   cases c with
   | true => exact iteT ⟨ρ1,ev,S1,d,S',hE.mono E1,hS1,hf,fun v ρ2 H2 E2 hS2 r2 => k v ρ2 H2 (E1.trans E2) hS2 r2⟩
   | false => cases hf; exact iteF (k _ ρ1 H1 E1 hS1 rfl)
 | _ => cases hf
theorem fe_not (h : FE X e g1) : FE X (.UnaryOp .Not e pos) (eNot g1) := pe_mono (pe_not h) fun σ H Q h => by
 obtain ⟨ρ,ev,S,d,S',hE,hS,hf,k⟩ := h
 obtain ⟨⟨x,S1⟩,q1,hf⟩ := bindS hf
 obtain ⟨z,q2,hf⟩ := mapS hf
 cases hf
 refine ⟨ρ,ev,S,x,_,hE,hS,q1,fun w ρ1 H1 E1 hS1 r1 => ?_⟩
 cases x with
 | bl c => cases q2; exact ⟨c,r1,k _ ρ1 H1 E1 hS1 rfl⟩
 | _ => cases q2
end
end F
namespace F
open PySem L2
section
variable {X : Cx} {st : Stmt} {rest : List Stmt} {a b body : C} {e o : Expr} {f g h' : E} {u : B} {pos pos' : Pos} {x c n : Str}
theorem fss_nil : FSs X [] sNil := pss_mono pss_nil fun σ H D h => by
 obtain ⟨ρ,ev,S,o,S',hE,hS,hf,k⟩ := h
 cases hf
 exact k σ ρ H (Ext.refl _ _) hS hE
theorem fss_cons (h1 : FS X st a) (h2 : FSs X rest b) : FSs X (st :: rest) (sSeq a b) := pss_mono (pss_cons h1 h2) fun σ H D h => by
 obtain ⟨ρ,ev,S,o,S',hE,hS,hf,k⟩ := h
 obtain ⟨⟨o1,S1⟩,q1,hf⟩ := bindS hf
 refine ⟨ρ,ev,S,o1,S1,hE,hS,q1,?_⟩
 cases o1 with
 | nx e => exact fun σ' ρ' H' E' hS' hE' => ⟨ρ',e,S1,o,S',hE',hS',hf,k.ext E'⟩
 | rt d => cases hf; exact k
 | bk e => cases hf; exact k
 | ct e => cases hf; exact k
theorem fss_one (h1 : FS X st a) : FSs X [st] a := pss_one h1
theorem fs_ret (h : FE X e f) : FS X (.Return (some e) pos) (sRet f) := ps_mono (ps_ret h) fun σ H D h => by
 obtain ⟨ρ,ev,S,o,S',hE,hS,hf,k⟩ := h
 obtain ⟨⟨d,S1⟩,q1,hf⟩ := mapS hf
 cases hf
 exact ⟨ρ,ev,S,d,_,hE,hS,q1,k⟩
theorem fs_retN : FS X (.Return none pos) sRetN := ps_mono ps_retN fun σ H D h => by
 obtain ⟨ρ,ev,S,o,S',hE,hS,hf,k⟩ := h
 cases hf
 exact k .non ρ H (Ext.refl _ _) hS rfl
theorem fs_never : FS X st sNever := ps_mono ps_never fun σ H D h => by
 obtain ⟨ρ,ev,S,o,S',hE,hS,hf,k⟩ := h
 cases hf
theorem fs_expr (h : FE X e f) (hs : swapsWith e none pos.line X.env = pure false := by rfl) : FS X (.Expr e pos) (sDrop f) := ps_mono (ps_expr h hs) fun σ H D h => by
 obtain ⟨ρ,ev,S,o,S',hE,hS,hf,k⟩ := h
 obtain ⟨⟨d,S1⟩,q1,hf⟩ := mapS hf
 cases hf
 exact ⟨ρ,ev,S,d,_,hE,hS,q1,fun v ρ1 H1 E1 hS1 r1 => k σ ρ1 H1 E1 hS1 (hE.mono E1)⟩
theorem fs_set (i : Nat) (h : FE X e f) (hN : X.N.Nodup) (hi : X.N[i]? = some x := by rfl) (hx : Loc X.env.scope x := by first | exact Or.inl rfl | exact Or.inr rfl) (hs : swapsWith e (some (.Name x pos')) pos.line X.env = pure false := by rfl)
   (hf : X.fn x = true ∨ X.env.scope.names.lookup x = some .local := by first | exact .inl rfl | exact .inr rfl | assumption) : FS X (.Assign [.Name x pos'] e pos) (sSet i f) :=
 ps_mono (ps_set hN hi hx h hs hf) fun σ H D h => by
   obtain ⟨ρ,ev,S,o,S',hE,hS,hf,k⟩ := h
   obtain ⟨⟨d,S1⟩,q1,hf⟩ := mapS hf
   cases hf
   exact ⟨ρ,ev,S,d,_,hE,hS,q1,fun v ρ1 H1 E1 hS1 r1 => k _ ρ1 H1 E1 hS1 ((hE.mono E1).set r1 i)⟩
inductive Names (X : Cx) : List Expr → List Nat → TGs → Prop where
 | nil : Names X [] [] gNil
 | cons {i : Nat} {x : Str} {px : Pos} {es : List Expr} {is : List Nat} {t : TGs} (hN : X.N.Nodup) (hi : X.N[i]? = some x) (hx : Loc X.env.scope x) (hf : X.fn x = true ∨ X.env.scope.names.lookup x = some .local) (h : Names X es is t) (p : PGs X (.Name x px :: es) (gCons (gName i) t)) : Names X (.Name x px :: es) (i :: is) (gCons (gName i) t)
theorem Names.pgs {es is t} (h : Names X es is t) : PGs X es t := by
 cases h with
 | nil => exact pgs_nil
 | cons _ _ _ _ _ p => exact p
theorem names_of {K mg ρ H} {es is t} (h : Names X es is t) : ∀ {ds : List D} {vs : List V} {ev ev' : Ev} {σ : St} {Q : St → Hp → Prop},RepL K mg ρ H ds vs → EnvR K mg ρ H ev σ → setAll ev is ds = some ev' → (∀ σ',EnvR K mg ρ H ev' σ' → Q σ' H) → t vs σ H Q := by
 induction h with
 | nil =>
   intro ds vs ev ev' σ Q r hE e k
   cases ds with
   | nil =>
     unfold RepL at r
     unfold setAll at e
     cases e
     exact ⟨r,k σ hE⟩
   | cons _ _ => unfold setAll at e; cases e
 | cons hN hi hx hf _ _ ih =>
   intro ds vs ev ev' σ Q r hE e k
   cases ds with
   | nil => unfold setAll at e; cases e
   | cons d ds =>
     unfold RepL at r
     obtain ⟨v,r',rfl,r1,r2⟩ := r
     unfold setAll at e
     exact ⟨v,r',rfl,ih r2 (hE.set r1 _) e k⟩
theorem setAll_len : ∀ {is : List Nat} {ds : List D} {ev ev' : Ev},setAll ev is ds = some ev' → ds.length = is.length
 | [],[],_,_,_ => rfl
 | i :: is,d :: ds,_,_,h => by unfold setAll at h; rw [List.length_cons,List.length_cons,setAll_len h]
 | [],_ :: _,_,_,h => by unfold setAll at h; cases h
 | _ :: _,[],_,_,h => by unfold setAll at h; cases h
theorem fs_if (hc : FB X e u) {sa sb : List Stmt} (ha : FSs X sa a) (hb : FSs X sb b) : FS X (.If e sa sb pos) (sIf u a b) := ps_mono (ps_if hc ha hb) fun σ H D h => by
 obtain ⟨ρ,ev,S,o,S',hE,hS,hf,k⟩ := h
 obtain ⟨⟨x,S1⟩,q1,hf⟩ := bindS hf
 refine ⟨ρ,ev,S,x,S1,hE,hS,q1,fun ρ1 H1 E1 hS1 => ?_⟩
 cases x with
 | true => exact iteT ⟨ρ1,ev,S1,o,S',hE.mono E1,hS1,hf,k.ext E1⟩
 | false => exact iteF ⟨ρ1,ev,S1,o,S',hE.mono E1,hS1,hf,k.ext E1⟩
theorem putRep {K mg ρ H} {n : Str} {d : D} {v : V} (r : Rep K mg ρ H d v) : ∀ {fs : List (Str × D)} {vs : List (Str × V)},RepF K mg ρ H fs vs → RepF K mg ρ H (putD n d fs) (putF n v vs)
 | [],vs,h => by
   obtain ⟨h1,_⟩ := h
   cases vs with
   | nil => exact ⟨rfl,RepL.cons r RepL.nil⟩
   | cons _ _ => cases h1
 | (a,b) :: fs,vs,h => by
   obtain ⟨h1,h2⟩ := h
   cases vs with
   | nil => cases h1
   | cons q vs =>
     obtain ⟨a',b'⟩ := q
     simp only [List.map_cons,List.cons.injEq] at h1
     obtain ⟨h3,h4⟩ := h1
     subst h3
     rw [List.map_cons,List.map_cons] at h2
     unfold RepL at h2
     obtain ⟨u,t,e1,r1,r2⟩ := h2
     cases e1
     rw [show putD n d ((a',b) :: fs) = (if a' = n then (a',d) :: fs else (a',b) :: putD n d fs) from rfl,show putF n v ((a',b') :: vs) = (if a' = n then (a',v) :: vs else (a',b') :: putF n v vs) from rfl]
     by_cases hn : a' = n
     · rw [if_pos hn,if_pos hn]
       exact ⟨by simp [h4],RepL.cons r r2⟩
     · rw [if_neg hn,if_neg hn]
       obtain ⟨i1,i2⟩ := putRep r (fs := fs) (vs := vs) ⟨h4,r2⟩
       exact ⟨by rw [List.map_cons,List.map_cons,i1],RepL.cons r1 i2⟩
theorem fs_fld (hc : Fld X.K X.mg c n) (ho : FE X o f) (hv : FE X e g) (hs : swapsWith e (some (.Attribute o n pos')) pos.line X.env = pure false := by rfl) : FS X (.Assign [.Attribute o n pos'] e pos) (sFldS c n f g) :=
 ps_mono (ps_fld ho hv hs) fun σ H D h => by
   obtain ⟨ρ,ev,S,o,S',hE,hS,hf,k⟩ := h
   obtain ⟨⟨d,S1⟩,q1,hf⟩ := bindS hf
   obtain ⟨⟨y,S2⟩,q2,hf⟩ := bindS hf
   obtain ⟨⟨i,fs⟩,q3,hf⟩ := bindS hf
   dsimp only at hf q3
   split at hf
   · rename_i hl
     cases hf
     obtain ⟨rfl,hi⟩ := insAt_eq q3
     refine ⟨ρ,ev,S,d,S1,hE,hS,q1,fun v ρ1 H1 E1 hS1 r1 => ⟨ρ1,ev,S1,_,S2,hE.mono E1,hS1,q2,fun w ρ2 H2 E2 hS2 r2 => ?_⟩⟩
     obtain ⟨b,C,dx,vs,rfl,hb1,hm',hb2,hb3⟩ := rep_obj hS2 hi r2
     have e0 := ext_set hS2 (.ins C dx (putF n v vs)) hb1
     refine ⟨b,C,dx,vs,rfl,hb2,(hc C hm').1,(hc C hm').2,by have := congrArg List.length hb3.1; simp at this; omega,?_⟩
     have hf2 : RepF X.K X.mg ρ2 (upd H2 b (.ins C dx (putF n v vs))) (putD n d fs) (putF n v vs) := putRep ((r1.mono E2).mono e0) ⟨hb3.1,hb3.2.mono e0⟩
     exact k σ ρ2 _ ((E1.trans E2).trans e0) (hS2.set hb1 ⟨C,dx,_,hm',upd_same,hf2⟩) (((hE.mono E1).mono E2).mono e0)
   · cases hf
section
variable {K : PySem.W.Frag} {mg : Str → Option Value} {ρ1 : List Addr} {H1 : Hp} {E : Ends} {S' : Sto} {o : Out} {i : Nat}
def Ahead (K : PySem.W.Frag) (mg : Str → Option Value) (ρ1 : List Addr) (H1 : Hp) (i : Nat) (body : C) (o : Out) (S' : Sto) (ds : List D) (σ : St) (H : Hp) : Prop :=
 ∃ ρ ev S,Ext ρ1 H1 ρ H ∧ StOk K mg ρ H S ∧ EnvR K mg ρ H ev σ ∧ loopF i body ds ev S = some (o,S')
theorem turn_ok {d : D} {ds : List D} {x : V} {σ : St} {H : Hp} {ρ : List Addr} {ev : Ev} {S : Sto} (k : Post K mg E S' ρ1 H1 o) (e0 : Ext ρ1 H1 ρ H) (hS : StOk K mg ρ H S) (hE : EnvR K mg ρ H ev σ) (r : Rep K mg ρ H d x) (hl : loopF i body (d :: ds) ev S = some (o,S')) :
   tC K mg body { E with nx := Ahead K mg ρ1 H1 i body o S' ds,ct := Ahead K mg ρ1 H1 i body o S' ds,bk := E.nx } (σ.set i (some x)) H := by
 obtain ⟨⟨o1,S3⟩,q,hl⟩ := bindS hl
 refine ⟨ρ,ev.set i (some d),S,o1,S3,hE.set r i,hS,q,?_⟩
 cases o1 with
 | nx e => exact fun σ' ρ' H' E' hS' hE' => ⟨ρ',e,S3,e0.trans E',hS',hE',hl⟩
 | ct e => exact fun σ' ρ' H' E' hS' hE' => ⟨ρ',e,S3,e0.trans E',hS',hE',hl⟩
 | bk e => cases hl; exact fun σ' ρ' H' E' hS' hE' => k σ' ρ' H' (e0.trans E') hS' hE'
 | rt y => cases hl; exact fun v ρ' H' E' hS' r' => k v ρ' H' (e0.trans E') hS' r'
theorem ahead_nil {σ : St} {H : Hp} (k : Post K mg E S' ρ1 H1 o) (h : Ahead K mg ρ1 H1 i body o S' [] σ H) : E.nx σ H := by
 obtain ⟨ρ,ev,S,e0,hS,hE,hl⟩ := h
 cases hl
 exact k σ ρ H e0 hS hE
end
theorem fs_forL (i : Nat) {l : Expr} {px : Pos} {sb : List Stmt} (hN : X.N.Nodup) (hl : FE X l f) (hb : FSs X sb body) (hp : PassesOwn (model X.prog X.w) X.A X.env X.xe) (hc : X.calm = true := by rfl) (hi : X.N[i]? = some x := by rfl) (hx : Loc X.env.scope x := by first | exact Or.inl rfl | exact Or.inr rfl)
   (hf : X.fn x = true ∨ X.env.scope.names.lookup x = some .local := by first | exact .inl rfl | exact .inr rfl | assumption) (hs : ∀ v,foldedSetIterable l X.env v = pure v := by intro _; rfl) :
   FS X (.For (.Name x px) l sb [] pos) (sForL i f body) :=
 ps_mono (ps_for hp hc (pi_list hl) (pg_name hN hi hx hf) hb hs) fun σ H D h => by
   obtain ⟨ρ,ev,S,o,S',hE,hS,hf,k⟩ := h
   obtain ⟨⟨d,S1⟩,q1,hf⟩ := bindS hf
   cases d with
   | lst ds =>
     refine ⟨ρ,ev,S,_,S1,hE,hS,q1,fun v ρ1 H1 E1 hS1 r1 => ?_⟩
     unfold Rep at r1
     obtain ⟨p,vs,rfl,t,r⟩ := r1
     have k1 := k.ext E1
     refine ⟨p,rfl,⟨vs,t.sq⟩,for_list (K := X.K) (a := p) (xs := vs) (fun j σ' H' => Ahead X.K X.mg ρ1 H1 i body o S' (ds.drop j) σ' H') ⟨ρ1,ev,S1,Ext.refl _ _,hS1,hE.mono E1,hf⟩ (fun j σ' H' _ ⟨ρ',ev',S2,e0,_⟩ => (t.mono e0).sq) ?_ ?_⟩
     · rintro j y σ' H' hj ⟨ρ',ev',S2,e0,hS2,hE2,hl2⟩
       have hjl : j < ds.length := by rw [r.length]; exact (List.getElem?_eq_some_iff.mp hj).1
       have ed : ds.drop j = ds[j] :: ds.drop (j + 1) := List.drop_eq_getElem_cons hjl
       obtain ⟨y',ey,ry⟩ := (r.mono e0).get (List.getElem?_eq_getElem hjl)
       rw [hj] at ey
       cases ey
       rw [ed] at hl2
       exact turn_ok k1 e0 hS2 hE2 ry hl2
     · intro σ' H' ha
       rw [List.drop_eq_nil_of_le (by rw [r.length]; exact Nat.le_refl _)] at ha
       exact ahead_nil k1 ha
   | _ => cases hf
theorem range_ok {K mg} {ρ1 : List Addr} {H1 : Hp} {E : Ends} {S' S1 : Sto} {o : Out} {i n : Nat} {lo : Int} {σ : St} {ev : Ev} (k : Post K mg E S' ρ1 H1 o) (hS1 : StOk K mg ρ1 H1 S1) (hE : EnvR K mg ρ1 H1 ev σ) (hf : loopF i body (rangeD lo n) ev S1 = some (o,S')) :
   ∃ W : Nat → Nat → St → Hp → Prop,(∃ m,W 0 m σ H1) ∧ ∀ j m σ H,W j m σ H →
     ((Itr lo n).stop j H ∧ E.nx σ H) ∨ ((Itr lo n).go j H ∧ ∃ N : St → Hp → Prop,(∀ σ' H',N σ' H' → ∃ m',m' < m ∧ W (j + 1) m' σ' H') ∧ ∀ x H',(Itr lo n).yld j H x H' → gName i x σ H' fun σ2 H2 => tC K mg body { E with nx := N,ct := N,bk := E.nx } σ2 H2) := by
 refine for_range (g := gName i) (fun j σ' H' => Ahead K mg ρ1 H1 i body o S' ((rangeD lo n).drop j) σ' H') ⟨ρ1,ev,S1,Ext.refl _ _,hS1,hE,hf⟩ ?_ ?_
 · rintro j σ' H' hj ⟨ρ',ev',S2,e0,hS2,hE2,hl2⟩
   have hjl : j < (rangeD lo n).length := by unfold rangeD; simpa using hj
   have ed : (rangeD lo n).drop j = (rangeD lo n)[j] :: (rangeD lo n).drop (j + 1) := List.drop_eq_getElem_cons hjl
   rw [ed] at hl2
   refine turn_ok k e0 hS2 hE2 ?_ hl2
   have : (rangeD lo n)[j] = D.int (lo + (j : Int)) := by simp [rangeD]
   rw [this]
   exact rfl
 · intro σ' H' ha
   rw [List.drop_eq_nil_of_le (by unfold rangeD; simp)] at ha
   exact ahead_nil k ha
theorem fs_forR (i : Nat) {l : Expr} {px p2 p3 : Pos} {sb : List Stmt} (hN : X.N.Nodup) (hm : X.mg "range" = none) (hl : FE X l f) (hb : FSs X sb body) (hp : PassesOwn (model X.prog X.w) X.A X.env X.xe) (hg : Gl X "range" := by rfl) (hc : X.calm = true := by rfl) (hi : X.N[i]? = some x := by rfl) (hx : Loc X.env.scope x := by first | exact Or.inl rfl | exact Or.inr rfl)
   (hf : X.fn x = true ∨ X.env.scope.names.lookup x = some .local := by first | exact .inl rfl | exact .inr rfl | assumption) (hst : starEach [l] X.env = [(false,eval l X.env)] := by exact star_cons rfl) (hs : ∀ v,foldedSetIterable (.Call (.Name "range" p2) [l] [] p3) X.env v = pure v := by intro _; rfl) :
   FS X (.For (.Name x px) (.Call (.Name "range" p2) [l] [] p3) sb [] pos) (sForR i f body) :=
 ps_mono (ps_for hp hc (pi_range1 hg hm (fa_cons hl fa_nil hst) hst) (pg_name hN hi hx hf) hb hs) fun σ H D h => by
   obtain ⟨ρ,ev,S,o,S',hE,hS,hf,k⟩ := h
   obtain ⟨⟨d,S1⟩,q1,hf⟩ := bindS hf
   cases d with
   | int j =>
     dsimp only at hf
     split at hf
     · rename_i hj
       refine ⟨ρ,ev,S,[.int j],S1,hE,hS,by simp only [aC,aN,q1,Option.bind_some],fun vs ρ1 H1 E1 hS1 r1 => ?_⟩
       unfold RepL at r1
       obtain ⟨v,r,rfl,r2,r3⟩ := r1
       unfold RepL at r3
       subst r3
       exact ⟨j,by rw [show v = .int j from r2],hj.1,hj.2,range_ok (k.ext E1) hS1 (hE.mono E1) hf⟩
     · cases hf
   | _ => cases hf
theorem fs_forR2 (i : Nat) {l l2 : Expr} {px p2 p3 : Pos} {sb : List Stmt} (hN : X.N.Nodup) (hm : X.mg "range" = none) (hl : FE X l f) (hl2 : FE X l2 g) (hb : FSs X sb body) (hp : PassesOwn (model X.prog X.w) X.A X.env X.xe) (hg : Gl X "range" := by rfl) (hc : X.calm = true := by rfl) (hi : X.N[i]? = some x := by rfl) (hx : Loc X.env.scope x := by first | exact Or.inl rfl | exact Or.inr rfl)
   (hf : X.fn x = true ∨ X.env.scope.names.lookup x = some .local := by first | exact .inl rfl | exact .inr rfl | assumption) (hst : starEach [l,l2] X.env = [(false,eval l X.env),(false,eval l2 X.env)] := by rfl) (hst2 : starEach [l2] X.env = [(false,eval l2 X.env)] := by exact star_cons rfl) (hs : ∀ v,foldedSetIterable (.Call (.Name "range" p2) [l,l2] [] p3) X.env v = pure v := by intro _; rfl) :
   FS X (.For (.Name x px) (.Call (.Name "range" p2) [l,l2] [] p3) sb [] pos) (sForR2 i f g body) :=
 ps_mono (ps_for hp hc (pi_range2 hg hm (fa_cons hl (fa_cons hl2 fa_nil hst2) (by rw [hst,hst2])) hst hst2) (pg_name hN hi hx hf) hb hs) fun σ H D h => by
   obtain ⟨ρ,ev,S,o,S',hE,hS,hf,k⟩ := h
   obtain ⟨⟨d,S1⟩,q1,hf⟩ := bindS hf
   obtain ⟨⟨d2,S2⟩,q2,hf⟩ := bindS hf
   cases d with
   | int a =>
     cases d2 with
     | int b =>
       dsimp only at hf
       split at hf
       · rename_i hj
         refine ⟨ρ,ev,S,[.int a,.int b],S2,hE,hS,by simp only [aC,aN,q1,q2,Option.bind_some],fun vs ρ1 H1 E1 hS1 r1 => ?_⟩
         unfold RepL at r1
         obtain ⟨v,r,rfl,r2,r3⟩ := r1
         unfold RepL at r3
         obtain ⟨w,r,rfl,r4,r5⟩ := r3
         unfold RepL at r5
         subst r5
         exact ⟨a,b,by rw [show v = .int a from r2,show w = .int b from r4],hj,range_ok (k.ext E1) hS1 (hE.mono E1) hf⟩
       · cases hf
     | _ => cases hf
   | _ => cases hf
theorem fs_while (m : Nat) {sb : List Stmt} (hc : FB X e u) (hb : FSs X sb body) (hp : PassesOwn (model X.prog X.w) X.A X.env X.xe) : FS X (.While e sb [] pos) (sWhile m u body) :=
 ps_mono (ps_while hp hc hb) fun σ H D h => by
   obtain ⟨ρ,ev,S,o,S',hE,hS,hf,k⟩ := h
   refine ⟨fun j σ' H' => ∃ ρ' ev' S2,Ext ρ H ρ' H' ∧ StOk X.K X.mg ρ' H' S2 ∧ EnvR X.K X.mg ρ' H' ev' σ' ∧ whileF u body j ev' S2 = some (o,S'),⟨m,ρ,ev,S,Ext.refl _ _,hS,hE,hf⟩,?_⟩
   rintro j σ' H' ⟨ρ',ev',S2,e0,hS2,hE2,hl⟩
   cases j with
   | zero => cases hl
   | succ j =>
     obtain ⟨⟨c,S3⟩,q1,hl⟩ := bindS hl
     refine ⟨ρ',ev',S2,c,S3,hE2,hS2,q1,fun ρ3 H3 E3 hS3 => ?_⟩
     cases c with
     | true =>
       obtain ⟨⟨o1,S4⟩,q2,hl⟩ := bindS hl
       refine ⟨_,fun σ' H' h => ⟨j,Nat.lt_succ_self j,h⟩,⟨ρ3,ev',S3,o1,S4,hE2.mono E3,hS3,q2,?_⟩⟩
       cases o1 with
       | nx e => exact fun σ4 ρ4 H4 E4 hS4 hE4 => ⟨ρ4,e,S4,(e0.trans E3).trans E4,hS4,hE4,hl⟩
       | ct e => exact fun σ4 ρ4 H4 E4 hS4 hE4 => ⟨ρ4,e,S4,(e0.trans E3).trans E4,hS4,hE4,hl⟩
       | bk e => cases hl; exact fun σ4 ρ4 H4 E4 hS4 hE4 => k σ4 ρ4 H4 ((e0.trans E3).trans E4) hS4 hE4
       | rt y => cases hl; exact fun v ρ4 H4 E4 hS4 r4 => k v ρ4 H4 ((e0.trans E3).trans E4) hS4 r4
     | false => cases hl; exact k σ' ρ3 H3 (e0.trans E3) hS3 (hE2.mono E3)
end
open PySem.Spec PyProof.Rows
structure FunD (K : PySem.W.Frag) (x qual : Str) (st : Stmt) (f : Addr) (fd : FuncData) (dV : Value) : Prop where
 ex : ∃ (oc : Value) (od : Option Addr) (kV doc pm : Value) (an : Option Addr) (cdv ct : Value) (osl : Array (Option Value)),
   fd = PySem.W.fnOf x qual (defArgs st) (defBody st) (defScope st) dV kV doc pm an cdv ct ∧ K.lookup f = some ⟨oc,od,.func fd,osl⟩ ∧ PySem.W.codeIn K cdv qual = true
 kp : PySem.W.keepIn K (.ref f) = true
theorem bodyF_len {N n c ds S r} (h : bodyF N n c ds S = some r) : ds.length = n := by
 unfold bodyF at h
 split at h
 · rename_i hl; exact hl
 · cases h
theorem body_ok {K mg} {c : C} {N : List Str} {n : Nat} {vs : List V} {H : Hp} {Q : VK} {E : XK} (h : spG K mg (bodyF N.length n c) vs H Q E) : tC K mg c { nx := fun _ H' => Q .non H',rt := Q } (start N vs) H := by
 obtain ⟨ρ,ds,S,d,S',r,hS,hf,k⟩ := h
 unfold bodyF at hf
 split at hf
 · split at hf
   · rename_i e S1 hc
     cases hf
     exact ⟨ρ,_,S,_,_,EnvR.start r,hS,hc,fun σ' ρ' H' E' hS' _ => k .non ρ' H' E' hS' rfl⟩
   · rename_i e S1 hc
     cases hf
     exact ⟨ρ,_,S,_,_,EnvR.start r,hS,hc,k⟩
   · cases hf
 · cases hf
theorem FunD.ok {P : Program} {w : World} {K : PySem.W.Frag} {mg : Str → Option Value} {base : Heap} {x qual : Str} {st : Stmt} {f : Addr} {fd : FuncData} {dV : Value} {N ps : List Str} {k : Nat} {c : C} (F : FunD K x qual st f fd dV) (S : FnScope N ps (defScope st))
   (hbody : ∀ (cdv : Value) (A : Around) (outer : List Env) (s : Shared) (H : Hp) (E : XK),Room k (A.deeper (envOfC qual (defScope st) s.heap.objs.size f cdv)) →
     FSs (cxOf CX0 P w K mg base N qual (defScope st) f cdv A outer s H E).nox (defBody st) c) : FnOk P w K mg base CX0 (k + 1) f fd ps (spG K mg (bodyF N.length ps.length c)) := by
 obtain ⟨oc,od,kV,doc,pm,an,cdv,ct,osl,rfl,lk,hcd⟩ := F.ex
 refine fn_of lk hcd S (fun vs H Q E h => ?_) fun A outer s H vs Q E hr hsp => ?_
 · obtain ⟨ρ,ds,S,d,S',r,hS,hf,k⟩ := h
   rw [← r.length]; exact bodyF_len hf
 · exact ⟨_,(hbody cdv A outer s H E hr).nox,body_ok hsp⟩
end F
namespace F
open PySem L2 PySem.Spec PyProof.Rows

def clOf (cells : List (Str × Addr)) : List (Str × NameKind) → List (Str × Addr) → List (Str × Addr)
 | [],acc => acc
 | (n,k) :: r,acc => clOf cells r (if k = .free then (match cells.lookup n with | some c => (n,c) :: acc | none => acc) else acc)
theorem clOf_sub {cells : List (Str × Addr)} : ∀ {names : List (Str × NameKind)} {acc : List (Str × Addr)},(∀ x c,acc.lookup x = some c → cells.lookup x = some c) → ∀ x c,(clOf cells names acc).lookup x = some c → cells.lookup x = some c
 | [],_,h => h
 | (n,k) :: r,acc,h => by
   unfold clOf
   refine clOf_sub (names := r) ?_
   intro x c
   split
   · split
     · rename_i c' e
       intro q
       simp only [List.lookup] at q
       split at q
       · rename_i hx
         cases q
         rw [beq_iff_eq.mp hx]; exact e
       · exact h x c q
     · exact h x c
   · exact h x c
theorem clOf_acc {cells : List (Str × Addr)} {x : Str} : ∀ {names : List (Str × NameKind)} {acc : List (Str × Addr)},(∃ c,acc.lookup x = some c) → ∃ c,(clOf cells names acc).lookup x = some c
 | [],_,h => h
 | (n,k) :: r,acc,h => by
   unfold clOf
   refine clOf_acc (names := r) ?_
   split
   · split
     · rename_i c' e
       simp only [List.lookup]
       split
       · exact ⟨_,rfl⟩
       · exact h
     · exact h
   · exact h
theorem clOf_has {cells : List (Str × Addr)} {x : Str} (hx : ∃ c,cells.lookup x = some c) : ∀ {names : List (Str × NameKind)} {acc : List (Str × Addr)},(x,NameKind.free) ∈ names → ∃ c,(clOf cells names acc).lookup x = some c
 | [],_,h => by cases h
 | (n,k) :: r,acc,h => by
   unfold clOf
   rcases List.mem_cons.mp h with e | h
   · cases e
     refine clOf_acc ?_
     obtain ⟨c,hc⟩ := hx
     rw [if_pos rfl,hc]
     exact ⟨c,by simp [List.lookup]⟩
   · exact clOf_has hx h
theorem closureFor_of {scope : Scope} {env : Env} (h : ∀ p ∈ scope.names,p.2 = NameKind.free → ∃ c,env.cells.lookup p.1 = some c) : closureFor scope env = pure (clOf env.cells scope.names []) := by
 unfold closureFor
 generalize scope.names = names at h
 have key : ∀ (names : List (Str × NameKind)) (acc : List (Str × Addr)),(∀ p ∈ names,p.2 = NameKind.free → ∃ c,env.cells.lookup p.1 = some c) →
     (forIn names acc fun (x : Str × NameKind) (cs : List (Str × Addr)) => (do
       if (x.2 == NameKind.free) = true then do
         let a ← cellOf env x.1
         pure (ForInStep.yield ((x.1,a) :: cs))
       else pure (ForInStep.yield cs) : Sem (ForInStep (List (Str × Addr))))) = pure (clOf env.cells names acc) := by
   intro names
   induction names with
   | nil => intro acc _; rfl
   | cons p r ih =>
     intro acc h
     obtain ⟨n,k⟩ := p
     rw [List.forIn_cons]
     unfold clOf
     by_cases hk : k = .free
     · subst hk
       obtain ⟨c,hc⟩ := h (n,.free) List.mem_cons_self rfl
       have hc' : env.cells.lookup n = some c := hc
       simp only [beq_self_eq_true,if_true,cellOf,hc',pure_bind]
       exact ih _ fun q hq => h q (List.mem_cons_of_mem _ hq)
     · have hb : (k == NameKind.free) = false := by simpa using hk
       simp only [hb,Bool.false_eq_true,if_false,pure_bind,if_neg hk]
       exact ih _ fun q hq => h q (List.mem_cons_of_mem _ hq)
 have := key names [] h
 first
   | (simp only [bind_pure]; exact this)
   | (rw [show (fun (x : Str × NameKind) (cs : List (Str × Addr)) => _) = _ from rfl]; exact this)
   | exact this

def evAt (ev : Ev) (i : Nat) : Option D := match ev[i]? with
 | some o => o
 | none => none
def svAt (σ : L2.St) (i : Nat) : Option V := match σ[i]? with
 | some o => o
 | none => none
def compCx (X : Cx) (N' : List Str) (scope : Scope) (s₀ : Shared) (H₀ : Hp) (C : Addr) (ex : List Addr) : Cx :=
 { X with N := N',s₀ := s₀,H₀ := H₀,env := compEnvC scope (clOf X.env.cells scope.names []) C X.env,outer := X.stack,ex := ex,fn := fun _ => false,pn := [],xe := fun _ _ => False }

section
variable {X : Cx} {pins : List (Addr × Obj)} {σ : L2.St} {H : Hp} {s : Shared} {scope : Scope} {x : Str} {N' : List Str} {fr : List Nat}
structure CompOk (X : Cx) (scope : Scope) (x : Str) (N' : List Str) (fr : List Nat) : Prop where
 nd : (x :: N').Nodup
 hx : scope.names.lookup x = some .local
 kind : scope.kind = .function
 frn : fr.map (fun j => X.N[j]?) = N'.map some
 frk : ∀ y ∈ N',X.env.kindOf y = some .cell ∧ (relabel scope X.env).names.lookup y = some .cell
 chk : ∀ p ∈ scope.names,p.2 ≠ .cell ∧ (p.2 = .free → X.env.kindOf p.1 = some .cell) ∧ (p.2 = .local → scope.names.lookup p.1 = some .local)
theorem compOk_mk (nd : (x :: N').Nodup) (hx : scope.names.lookup x = some .local) (kind : scope.kind = .function) (frn : fr.map (fun j => X.N[j]?) = N'.map some)
   (frk : (N'.all fun y => X.env.kindOf y == some NameKind.cell && (relabel scope X.env).names.lookup y == some NameKind.cell) = true)
   (chk : (scope.names.all fun p => p.2 != NameKind.cell && (p.2 != NameKind.free || X.env.kindOf p.1 == some NameKind.cell) && (p.2 != NameKind.local || scope.names.lookup p.1 == some NameKind.local)) = true) : CompOk X scope x N' fr := by
 refine ⟨nd,hx,kind,frn,fun y hy => ?_,fun p hp => ?_⟩
 · have := List.all_eq_true.mp frk y hy
   simpa using this
 · have := List.all_eq_true.mp chk p hp
   simp only [Bool.and_eq_true,Bool.or_eq_true,bne_iff_ne,beq_iff_eq] at this
   exact ⟨this.1.1,fun e => this.1.2.resolve_left (fun z => z e),fun e => this.2.resolve_left (fun z => z e)⟩
theorem lookup_mem {α : Type} {x : Str} {k : α} : ∀ {l : List (Str × α)},l.lookup x = some k → (x,k) ∈ l
 | [],h => by cases h
 | (n,a) :: r,h => by
   simp only [List.lookup] at h
   split at h
   · rename_i e
     cases h
     rw [beq_iff_eq.mp e]; exact List.mem_cons_self
   · exact List.mem_cons_of_mem _ (lookup_mem h)
theorem CompOk.free (c : CompOk X scope x N' fr) {y : Str} (h : (relabel scope X.env).names.lookup y = some .cell ∨ (relabel scope X.env).names.lookup y = some .free) : (y,NameKind.free) ∈ scope.names := by
 have go : ∀ k,(k = NameKind.cell ∨ k = .free) → (relabel scope X.env).names.lookup y = some k → (y,NameKind.free) ∈ scope.names := by
   intro k hk e
   have m := lookup_mem e
   unfold relabel at m
   obtain ⟨⟨n,k0⟩,hm,e2⟩ := List.mem_map.mp m
   dsimp only at e2
   split at e2
   · rename_i hc
     cases e2
     have : k0 = .free := by
       rw [Bool.and_eq_true,Bool.and_eq_true] at hc
       simpa using hc.1.1
     subst this
     exact hm
   · cases e2
     rcases hk with rfl | rfl
     · exact absurd rfl (c.chk _ hm).1
     · exact hm
 rcases h with h | h
 · exact go _ (.inl rfl) h
 · exact go _ (.inr rfl) h
theorem CompOk.start (c : CompOk X scope x N' fr) (I : Inv X pins σ H s) {fp : List Addr} (hf : ∀ b ∈ fp,FpOk X pins H b) (hfl : ∀ b ∈ fp,b < s.heap.objs.size) {C : Addr} (hC : s.heap.objs.size ≤ C) {h1 : Heap} {m : Str → Option Value} {t' : Nat} (hk : ∀ b o,s.heap.get? b = some o → h1.get? b = some o) (hn : h1.Ns C m) :
   Inv (compCx X (x :: N') scope s H C fp) [] (none :: fr.map (svAt σ)) H { s with heap := h1,toks := t' } := by
 have sub : ∀ y a,(clOf X.env.cells scope.names []).lookup y = some a → X.env.cells.lookup y = some a := clOf_sub (fun _ _ h => by cases h)
 have hfs : ∀ b ∈ frs X.stack,H b = none := I.stkFree
 have cellt : ∀ y a,X.env.cells.lookup y = some a → a < s.heap.objs.size := fun y a e => by
   obtain ⟨v,q⟩ := I.cell y a e
   exact q.lt
 refine ⟨⟨I.ok.mod,c.kind,I.ok.glob,I.ok.blt,hC,fun y z a h1 h2 => I.ok.inj y z a (sub _ _ h1) (sub _ _ h2),fun y hy => ?_,fun y a h => ?_,I.ok.hd,I.ok.frames,.inl rfl,fun b hb => ⟨Nat.ne_of_lt (Nat.lt_of_lt_of_le (hfl b hb) hC),fun y a e => (hf b hb).2.2.2.2.1 y a (sub _ _ e)⟩,I.bs,Nat.le_trans I.ok.bsz I.sz,fun b o e hb => ?_,fun b hb z => ?_,I.stack,hfs⟩,
   rfl,I.bare,Un.kept hk,⟨m,hn,fun i y v e1 e2 e3 => ?_⟩,fun y a e => ?_,I.hok.fresh hC,fun y a e => I.freeC y a (sub _ _ e),fun p hp => absurd hp (by simp [compCx]),I.hok.kept hk,?_⟩
 · exact clOf_has (I.ok.has y (.inl ((c.chk _ (c.free hy)).2.1 rfl))) (c.free hy)
 · cases h
 · have := (I.bs b o e).1
   have z := hf b hb
   rcases z.2.2.2.1 with z | z
   · exact I.ok.noex b o e z
   · have := (I.ok.bs b o e).1
     exact absurd (Nat.lt_of_lt_of_le (Heap.lt_size this) z) (Nat.lt_irrefl _)
 · rcases List.mem_cons.mp (I.stkSub b z) with e | e
   · exact (hf b hb).2.1 e
   · exact (hf b hb).2.2.1 e
 · cases i with
   | zero => simp at e2
   | succ i =>
     have e1 : N'[i]? = some y := by simpa [compCx] using e1
     have e2 : (fr.map (svAt σ))[i]? = some (some v) := by simpa using e2
     rw [List.getElem?_map] at e2
     cases ej : fr[i]? with
     | none => rw [ej] at e2; cases e2
     | some j =>
       rw [ej] at e2
       have e2 : svAt σ j = some v := by simpa using e2
       have hv : σ[j]? = some (some v) := by
         unfold svAt at e2
         split at e2
         · rename_i o ho
           rw [ho,e2]
         · cases e2
       have hN : X.N[j]? = some y := by
         have q := congrArg (fun l => l[i]?) c.frn
         simp only [List.getElem?_map,ej,e1,Option.map_some,Option.some.injEq] at q
         exact q
       obtain ⟨k1,k2⟩ := c.frk y (List.mem_of_getElem? e1)
       obtain ⟨mm,_,hl⟩ := I.loc
       obtain ⟨u,r,l⟩ := hl j y v hN hv (.inr (.inl k1))
       refine ⟨u,r,?_⟩
       rcases l with ⟨k,_⟩ | ⟨_,a,ha,hcl⟩
       · rw [k1] at k; cases k
       · refine .inr ⟨.inl k2,a,?_,?_⟩
         · obtain ⟨a',ha'⟩ := clOf_has (cells := X.env.cells) (names := scope.names) (acc := []) ⟨a,ha⟩ (c.free (.inl k2))
           have := sub _ _ ha'
           rw [ha] at this; cases this
           exact ha'
         · obtain ⟨o,ho,hd⟩ := hcl
           exact ⟨o,hk _ _ ho,hd⟩
 · obtain ⟨v,o,ho,hd⟩ := I.cell y a (sub _ _ e)
   exact ⟨v,o,hk _ _ ho,hd⟩
 · have := congrArg List.length c.frn
   simp at this
   simp [compCx,this]
theorem Inv.track {p : Addr} {ys : List V} {its : List Value} {n : Nat} (I : Inv X pins σ H s) (hn : H p = none) (ho : s.heap.get? p = some { cls := .type "list",data := .seq its.toArray n }) (r : Vals ys its) (hz : ys.length ≤ sizeLine)
   (h1 : p ∈ X.ex ∨ X.s₀.heap.objs.size ≤ p) (hL : p ≠ X.env.locals) (h2 : ∀ x c,X.env.cells.lookup x = some c → c ≠ p) (h3 : ∀ q ∈ X.pn ++ pins,q.1 ≠ p) : Inv X pins σ (upd H p (.lst ys)) s := by
 refine I.step (g' := s.gens) (d' := s.drawn) (h' := s.heap) (t' := s.toks) (ch := [p]) (fun b hb => ?_) (fun b o _ _ _ e _ => e) (fun b o _ _ _ e _ => ⟨o.slots,e⟩) (fun b o hc e n => ?_) (fun b o _ e => ⟨o,e⟩) (fun b xs e => ?_) (fun b o u e => ?_) (fun b ps e => ⟨#[],?_⟩) (fun _ hm => hm) (fun b u e => ?_) I.bare
 · rw [List.mem_singleton.mp hb]; exact ⟨h1,hL,h2,h3⟩
 · rw [upd_ne (fun z => hc (by simp [z]))]; exact n
 · rw [upd_ne (ne_of_none e hn)]; exact e
 · rw [upd_ne (ne_of_none e hn)]; exact e
 · rw [upd_ne (ne_of_none e hn),e]; simp
 · by_cases hb : b = p
   · subst hb
     rw [upd_same] at e
     cases e
     exact ⟨hz,its,n,r,ho⟩
   · rw [upd_ne hb] at e
     exact (I.hok b u e).stay (fun _ _ _ q => q) (fun c q => by rw [upd_ne (ne_of_none q hn)]; exact q) fun c xs q => by rw [upd_ne (ne_of_none q hn)]; exact q

theorem sameBut_hok {P : Program} {w : World} {H : Hp} {h h' : Heap} {c : Addr} (hok : HOk P w H h) (hs : Heap.SameBut c h h') (hn : H c = none) : HOk P w H h' := fun b ob e => by
 refine (hok b ob e).stay (fun d o hd q => (hs.2 d ?_).trans q) (fun _ q => q) fun _ _ q => q
 rintro rfl
 rcases hd with rfl | hd
 · rw [hn] at e; cases e
 · rw [hn] at hd; cases hd
end
end F
namespace F
open PySem L2 PySem.Spec PyProof.Rows

def IB (i : Int) : Prop := i.natAbs < 2 ^ 4096
instance (i : Int) : Decidable (IB i) := inferInstanceAs (Decidable (_ < _))
def opAdd : D → D → Option D
 | .int i,.int j => some (.int (i + j))
 | .str x,.str y => if x.length + y.length ≤ sizeLine then some (.str (x ++ y)) else none
 | .lst a,.lst b => if a.length + b.length ≤ sizeLine then some (.lst (a ++ b)) else none
 | .tup a,.tup b => if a.length + b.length ≤ sizeLine then some (.tup (a ++ b)) else none
 | _,_ => none
def opI (g : Int → Int → Option Int) : D → D → Option D
 | .int i,.int j => (g i j).map D.int
 | _,_ => none
def opIB (g : Int → Int → Bool) : D → D → Option D
 | .int i,.int j => some (.bl (g i j))
 | _,_ => none
def mulI (i j : Int) : Option Int := if (-(2 ^ 64) < i ∧ i < 2 ^ 64) ∨ (-(2 ^ 64) < j ∧ j < 2 ^ 64) ∨ (IB i ∧ IB j) then some (i * j) else none
def divI (i j : Int) : Option Int := if 0 < j ∧ j < 1073741824 then some (i / j) else none
def modI (i j : Int) : Option Int := if 0 < j then some (i % j) else none
def powI (i j : Int) : Option Int := if 0 ≤ j ∧ j ≤ 1000000 ∧ i.natAbs < 2 ^ 64 then some (i ^ j.toNat) else none
def opSub : D → D → Option D := opI fun i j => some (i - j)
def opMul : D → D → Option D := opI mulI
def opDiv : D → D → Option D := opI divI
def opMod : D → D → Option D := opI modI
def opPow : D → D → Option D := opI powI
def opLt : D → D → Option D := opIB fun i j => decide (i < j)
def opLe : D → D → Option D := opIB fun i j => decide (i ≤ j)
def opGt : D → D → Option D := opIB fun i j => decide (j < i)
def opGe : D → D → Option D := opIB fun i j => decide (j ≤ i)
def isNon : D → Bool
 | .non => true
 | _ => false
def opIs : D → D → Option D
 | d,.non => some (.bl (isNon d))
 | .bl a,.bl b => some (.bl (a == b))
 | _,_ => none
def opIsNot : D → D → Option D
 | d,.non => some (.bl (!isNon d))
 | .bl a,.bl b => some (.bl (a != b))
 | _,_ => none
def opIx (S : Sto) : D → D → Option D
 | .lst ds,.int i => atI ds i
 | .tup ds,.int i => atI ds i
 | .str z,.int i => if z.length ≤ sizeLine then (atI z.cps.toList i).map fun c => .str ⟨#[c]⟩ else none
 | .obj a,.int i => (match S[a]? with
   | some (.lst ds) => atI ds i
   | _ => none)
 | _,_ => none

section
variable {X : Cx} {K : PySem.W.Frag} {mg : Str → Option Value}
theorem Rep.refI {ρ H i v} (h : Rep K mg ρ H (.int i) v) : v = .int i := h
theorem Rep.refS {ρ H i v} (h : Rep K mg ρ H (.str i) v) : v = .str i := h
theorem Rep.refT {ρ H ds v} (h : Rep K mg ρ H (.tup ds) v) : ∃ p vs,v = .ref p ∧ TupAt K ρ H p vs ∧ RepL K mg ρ H ds vs := by unfold Rep at h; exact h
theorem Rep.refL {ρ H ds v} (h : Rep K mg ρ H (.lst ds) v) : ∃ p vs,v = .ref p ∧ LstAt K ρ H p vs ∧ RepL K mg ρ H ds vs := by unfold Rep at h; exact h
def rCatL (K : PySem.W.Frag) : R2 := fun x y H Q => ∃ l b xs zs,x = .ref l ∧ y = .ref b ∧ SqL K H l xs ∧ SqL K H b zs ∧ xs.length + zs.length ≤ sizeLine ∧ ∀ p,H p = none → Q (.ref p) (upd H p (.lst (xs ++ zs)))
theorem op_catL : OpR X (binaryOp .Add) (rCatL X.K) := by
 intro pins s σ H x y v u Q I rx ry h
 obtain ⟨l,b,xs,zs,rfl,rfl,hH,hB,hz,q⟩ := h
 cases rx
 cases ry
 obtain ⟨its,r,pl,_⟩ := I.list hH
 obtain ⟨its2,r2,pl2,_⟩ := I.list hB
 obtain ⟨⟨cls,dd,data,sl⟩,ho,hc,n,hd⟩ := pl.isList
 obtain ⟨⟨cls2,dd2,data2,sl2⟩,ho2,hc2,n2,hd2⟩ := pl2.isList
 simp only at hc hd hc2 hd2
 subst hc hd hc2 hd2
 have e : its.toArray ++ its2.toArray = (its ++ its2).toArray := by simp
 have h1 := r.length
 have h2 := r2.length
 refine concat_meets ⟨_,ho,rfl⟩ ⟨_,ho2,rfl⟩ noFill_list_add seq_list_add PySem.F.slot_list_add PySem.F.entry_list_add (PySem.F.args_list_add_2 _ _) (list_addW l b its.toArray its2.toArray n n2 dd dd2 sl sl2 (by simp only [List.size_toArray]; omega)) ⟨ho,ho2,?_⟩
 rw [e]
 exact ⟨.ref _,_,I.lnew (t' := s.toks) (r.append r2) (by rw [List.length_append]; omega),rfl,q _ I.fresh⟩
def rCatT0 (K : PySem.W.Frag) : R2 := fun x y H Q => ∃ a b ys,x = .ref a ∧ y = .ref b ∧ SqT K H a [] ∧ SqT K H b ys ∧ Q (.ref b) H
theorem op_catT0 : OpR X (binaryOp .Add) (rCatT0 X.K) := by
 intro pins s σ H x y v u Q I rx ry h
 obtain ⟨a,b,ys,rfl,rfl,ha,hb,q⟩ := h
 cases rx
 cases ry
 obtain ⟨its,r1,p1,_⟩ := I.tuple ha
 obtain ⟨its2,r2,p2,_⟩ := I.tuple hb
 cases r1
 obtain ⟨⟨cls,dd,data,sl⟩,ho,hc,n,hd⟩ := id p1
 obtain ⟨⟨cls2,dd2,data2,sl2⟩,ho2,hc2,n2,hd2⟩ := id p2
 simp only at hc hd hc2 hd2
 subst hc hd hc2 hd2
 exact concat_meets ⟨_,ho,rfl⟩ ⟨_,ho2,rfl⟩ noFill_tuple_add seq_tuple_add PySem.F.slot_tuple_add PySem.F.entry_tuple_add (PySem.F.args_tuple_add_2 _ _)
   (tuple_addW0 a b _ _ n n2 dd dd2 sl sl2 rfl) ⟨ho,ho2,⟨.ref b,H,I,rfl,q⟩⟩
theorem snd_add : Snd2 K mg (fun x y H Q => rI0 (fun i j => .int (i + j)) x y H Q ∨ (∃ i j,x = .str i ∧ y = .str j ∧ i.length + j.length ≤ sizeLine ∧ Q (.str (i ++ j)) H) ∨ rCatL K x y H Q ∨ rCatT K x y H Q ∨ rCatT0 K x y H Q) (fun _ => opAdd) := by
 intro ρ H S x y dx dy d Q hS rx ry e k
 replace e : opAdd dx dy = some d := e
 unfold opAdd at e
 split at e
 · rename_i i j
   cases e
   rw [rx.refI,ry.refI]
   exact .inl ⟨i,j,rfl,rfl,k _ H (Ext.refl _ _) hS rfl⟩
 · rename_i i j
   split at e
   · rename_i hl
     cases e
     rw [rx.refS,ry.refS]
     exact .inr (.inl ⟨i,j,rfl,rfl,hl,k _ H (Ext.refl _ _) hS rfl⟩)
   · cases e
 · rename_i a b
   split at e
   · rename_i hl
     cases e
     obtain ⟨p,vs,rfl,t1,r1⟩ := rx.refL
     obtain ⟨q,us,rfl,t2,r2⟩ := ry.refL
     refine .inr (.inr (.inl ⟨p,q,vs,us,rfl,rfl,t1.sq,t2.sq,by rw [← r1.length,← r2.length]; exact hl,fun z hz => ?_⟩))
     exact k _ _ (ext_new hS _ hz) (hS.new _ hz) (Rep.lst (s := hS) hz (r1.append r2))
   · cases e
 · rename_i a b
   split at e
   · rename_i hl
     cases e
     obtain ⟨p,vs,rfl,t1,r1⟩ := rx.refT
     obtain ⟨q,us,rfl,t2,r2⟩ := ry.refT
     cases a with
     | nil =>
       have := r1.length
       cases vs with
       | nil => exact .inr (.inr (.inr (.inr ⟨p,q,us,rfl,rfl,t1.sq,t2.sq,k _ H (Ext.refl _ _) hS ry⟩)))
       | cons _ _ => simp at this
     | cons a0 a =>
       refine .inr (.inr (.inr (.inl ⟨p,q,vs,us,rfl,rfl,t1.sq,t2.sq,?_,by rw [← r1.length,← r2.length]; exact hl,fun z => ?_,fun z w hw => ?_⟩)))
       · intro z
         have := r1.length
         subst z
         simp at this
       · have := r2.length
         subst z
         cases b with
         | nil => rw [List.append_nil] at k; exact k _ H (Ext.refl _ _) hS rx
         | cons _ _ => simp at this
       · exact k _ _ (ext_new hS _ hw) (hS.new _ hw) (Rep.tup (s := hS) hw (r1.append r2))
   · cases e
 · cases e
theorem fe_add {a b : Expr} {f g : E} {pos : Pos} (ha : FE X a f) (hb : FE X b g) : FE X (.BinOp a .Add b pos) (e2 opAdd f g) :=
 fe_bin (op_add.or (op_add_str.or (op_catL.or (op_catT.or op_catT0)))) snd_add ha hb
theorem snd_I {C : Int → Int → Prop} {gV : Int → Int → Int} {g : Int → Int → Option Int} (h : ∀ i j z,g i j = some z → C i j ∧ z = gV i j) : Snd2 K mg (rI C fun i j => .int (gV i j)) (fun _ => opI g) := by
 intro ρ H S x y dx dy d Q hS rx ry e k
 replace e : opI g dx dy = some d := e
 unfold opI at e
 split at e
 · rename_i i j
   obtain ⟨z,e1,e⟩ := mapS e
   cases e
   obtain ⟨hc,rfl⟩ := h i j z e1
   rw [rx.refI,ry.refI]
   exact ⟨i,j,rfl,rfl,hc,k _ H (Ext.refl _ _) hS rfl⟩
 · cases e
theorem snd_I0 {gV : Int → Int → Int} : Snd2 K mg (rI0 fun i j => .int (gV i j)) (fun _ => opI fun i j => some (gV i j)) := by
 intro ρ H S x y dx dy d Q hS rx ry e k
 replace e : opI _ dx dy = some d := e
 unfold opI at e
 split at e
 · rename_i i j
   cases e
   rw [rx.refI,ry.refI]
   exact ⟨i,j,rfl,rfl,k _ H (Ext.refl _ _) hS rfl⟩
 · cases e
theorem snd_IB {g : Int → Int → Bool} : Snd2 K mg (rI0 fun i j => .bl (g i j)) (fun _ => opIB g) := by
 intro ρ H S x y dx dy d Q hS rx ry e k
 replace e : opIB g dx dy = some d := e
 unfold opIB at e
 split at e
 · rename_i i j
   cases e
   rw [rx.refI,ry.refI]
   exact ⟨i,j,rfl,rfl,k _ H (Ext.refl _ _) hS rfl⟩
 · cases e
variable {a b : Expr} {f g : E} {pos : Pos}
theorem fe_sub (ha : FE X a f) (hb : FE X b g) : FE X (.BinOp a .Sub b pos) (e2 opSub f g) := fe_bin op_sub snd_I0 ha hb
theorem bits_IB {i : Int} (h : IB i) : Builtin.Int.intBits i ≤ 2 ^ 20 := by
 unfold IB at h
 unfold Builtin.Int.intBits
 have : i.natAbs.log2 < 4096 := by
   by_cases h0 : i.natAbs = 0
   · rw [h0]; decide
   · exact (Nat.log2_lt h0).mpr h
 split <;> omega
theorem op_mulW : OpR X (binaryOp .Mult) (rI (fun i j => CMul i j ∨ (IB i ∧ IB j)) fun i j => .int (i * j)) :=
 L2.opI fun i j _ _ _ _ _ hc q => mul_int q (by
   rcases hc with hc | ⟨h1,h2⟩
   · exact hc.ok
   · exact IntMulOk.of_bits (bits_IB h1) (bits_IB h2))
theorem fe_mul (ha : FE X a f) (hb : FE X b g) : FE X (.BinOp a .Mult b pos) (e2 opMul f g) := fe_bin op_mulW (snd_I fun i j z e => by
 unfold mulI at e
 split at e
 · rename_i h
   cases e
   refine ⟨?_,rfl⟩
   rcases h with h | h | h
   · exact .inl (.inl h)
   · exact .inl (.inr h)
   · exact .inr h
 · cases e) ha hb
theorem fe_div (ha : FE X a f) (hb : FE X b g) : FE X (.BinOp a .FloorDiv b pos) (e2 opDiv f g) := fe_bin op_fdiv (snd_I fun i j z e => by
 unfold divI at e
 split at e
 · rename_i h; cases e; exact ⟨h,rfl⟩
 · cases e) ha hb
theorem fe_mod (ha : FE X a f) (hb : FE X b g) : FE X (.BinOp a .Mod b pos) (e2 opMod f g) := fe_bin op_mod (snd_I fun i j z e => by
 unfold modI at e
 split at e
 · rename_i h; cases e; exact ⟨h,rfl⟩
 · cases e) ha hb
theorem fe_pow (ha : FE X a f) (hb : FE X b g) : FE X (.BinOp a .Pow b pos) (e2 opPow f g) := fe_bin op_pow (snd_I fun i j z e => by
 unfold powI at e
 split at e
 · rename_i h; cases e; exact ⟨h,rfl⟩
 · cases e) ha hb
theorem fe_lt (ha : FE X a f) (hb : FE X b g) (hm : behindInMarks .Lt b = false := by exact nomark _) : FE X (.Compare a [.Lt] [b] pos) (e2 opLt f g) := fe_cmp op_lt snd_IB ha hb hm
theorem fe_le (ha : FE X a f) (hb : FE X b g) (hm : behindInMarks .LtE b = false := by exact nomark _) : FE X (.Compare a [.LtE] [b] pos) (e2 opLe f g) := fe_cmp op_le snd_IB ha hb hm
theorem fb_lt (ha : FE X a f) (hb : FE X b g) (hm : behindInMarks .Lt b = false := by exact nomark _) : FB X (.Compare a [.Lt] [b] pos) (bE (e2 opLt f g)) := fb_cmp op_lt snd_IB ha hb hm
theorem fb_le (ha : FE X a f) (hb : FE X b g) (hm : behindInMarks .LtE b = false := by exact nomark _) : FB X (.Compare a [.LtE] [b] pos) (bE (e2 opLe f g)) := fb_cmp op_le snd_IB ha hb hm
theorem fb_gt (ha : FE X a f) (hb : FE X b g) (hm : behindInMarks .Gt b = false := by exact nomark _) : FB X (.Compare a [.Gt] [b] pos) (bE (e2 opGt f g)) := fb_cmp op_gt snd_IB ha hb hm
theorem fb_ge (ha : FE X a f) (hb : FE X b g) (hm : behindInMarks .GtE b = false := by exact nomark _) : FB X (.Compare a [.GtE] [b] pos) (bE (e2 opGe f g)) := fb_cmp op_ge snd_IB ha hb hm

theorem isNon_of {ρ H d v} (h : Rep K mg ρ H d v) : isNon d = decide (v = .non) := by
 cases d with
 | non => rw [show v = .non from h]; rfl
 | bl b => rw [show v = .bl b from h]; rfl
 | int b => rw [show v = .int b from h]; rfl
 | str b => rw [show v = .str b from h]; rfl
 | fn x => unfold Rep at h; obtain ⟨p,rfl,_⟩ := h; rfl
 | ty b => rw [show v = .ty b from h]; rfl
 | tup x => obtain ⟨p,_,rfl,_⟩ := h.refT; rfl
 | lst x => obtain ⟨p,_,rfl,_⟩ := h.refL; rfl
 | obj x => unfold Rep at h; obtain ⟨p,rfl,_⟩ := h; rfl
 | lam x => unfold Rep at h; obtain ⟨p,rfl,_⟩ := h; rfl
 | clo x y => unfold Rep at h; obtain ⟨p,_,rfl,_⟩ := h; rfl
theorem op_isB : OpR X (compareOp .Is) (fun x y H Q => ∃ i j,x = .bl i ∧ y = .bl j ∧ Q (.bl (i == j)) H) := by
 intro pins s σ H x y v u Q I rx ry h
 obtain ⟨i,j,rfl,rfl,q⟩ := h
 cases rx
 cases ry
 exact is_bool ⟨.bl _,H,I,rfl,q⟩
theorem op_isNotB : OpR X (compareOp .IsNot) (fun x y H Q => ∃ i j,x = .bl i ∧ y = .bl j ∧ Q (.bl (i != j)) H) := by
 intro pins s σ H x y v u Q I rx ry h
 obtain ⟨i,j,rfl,rfl,q⟩ := h
 cases rx
 cases ry
 exact isnot_bool ⟨.bl _,H,I,rfl,q⟩
theorem snd_is : Snd2 K mg (fun x y H Q => (y = .non ∧ Q (.bl (decide (x = .non))) H) ∨ (∃ i j,x = .bl i ∧ y = .bl j ∧ Q (.bl (i == j)) H)) (fun _ => opIs) := by
 intro ρ H S x y dx dy d Q hS rx ry e k
 replace e : opIs dx dy = some d := e
 unfold opIs at e
 split at e
 · cases e
   rw [isNon_of rx] at k
   exact .inl ⟨ry,k _ H (Ext.refl _ _) hS rfl⟩
 · rename_i i j _
   cases e
   exact .inr ⟨_,_,rx,ry,k _ H (Ext.refl _ _) hS rfl⟩
 · cases e
theorem snd_isNot : Snd2 K mg (fun x y H Q => (y = .non ∧ Q (.bl (!decide (x = .non))) H) ∨ (∃ i j,x = .bl i ∧ y = .bl j ∧ Q (.bl (i != j)) H)) (fun _ => opIsNot) := by
 intro ρ H S x y dx dy d Q hS rx ry e k
 replace e : opIsNot dx dy = some d := e
 unfold opIsNot at e
 split at e
 · cases e
   rw [isNon_of rx] at k
   exact .inl ⟨ry,k _ H (Ext.refl _ _) hS rfl⟩
 · rename_i i j _
   cases e
   exact .inr ⟨_,_,rx,ry,k _ H (Ext.refl _ _) hS rfl⟩
 · cases e
theorem fe_is (ha : FE X a f) (hb : FE X b g) (hm : behindInMarks .Is b = false := by exact nomark _) : FE X (.Compare a [.Is] [b] pos) (e2 opIs f g) := fe_cmp (op_isN.or op_isB) snd_is ha hb hm
theorem fb_is (ha : FE X a f) (hb : FE X b g) (hm : behindInMarks .Is b = false := by exact nomark _) : FB X (.Compare a [.Is] [b] pos) (bE (e2 opIs f g)) := fb_cmp (op_isN.or op_isB) snd_is ha hb hm
theorem fb_isNot (ha : FE X a f) (hb : FE X b g) (hm : behindInMarks .IsNot b = false := by exact nomark _) : FB X (.Compare a [.IsNot] [b] pos) (bE (e2 opIsNot f g)) := fb_cmp (op_notN.or op_isNotB) snd_isNot ha hb hm

theorem atI_rep {ρ H ds vs i d} (r : RepL K mg ρ H ds vs) (h : atI ds i = some d) : ∃ v,atI vs i = some v ∧ Rep K mg ρ H d v := by
 unfold atI at h ⊢
 rw [← r.length]
 obtain ⟨j,h1,h2⟩ := bindS h
 rw [h1]
 exact r.get h2
theorem snd_ix : Snd2 K mg (rIx K) opIx := by
 intro ρ H S x y dx dy d Q hS rx ry e k
 unfold opIx at e
 split at e
 · rename_i ds i
   obtain ⟨p,vs,rfl,t,r⟩ := rx.refL
   obtain ⟨v,h1,h2⟩ := atI_rep r e
   exact .inl ⟨p,vs,i,v,rfl,ry.refI,t.sq,h1,k _ H (Ext.refl _ _) hS h2⟩
 · rename_i ds i
   obtain ⟨p,vs,rfl,t,r⟩ := rx.refT
   obtain ⟨v,h1,h2⟩ := atI_rep r e
   exact .inr (.inl ⟨p,vs,i,v,rfl,ry.refI,t.sq,h1,k _ H (Ext.refl _ _) hS h2⟩)
 · rename_i z i
   split at e
   · rename_i hz
     obtain ⟨c,h1,e⟩ := mapS e
     cases e
     exact .inr (.inr ⟨z,i,c,rx.refS,ry.refI,hz,h1,k _ H (Ext.refl _ _) hS rfl⟩)
   · cases e
 · rename_i o i
   split at e
   · rename_i ds hd
     unfold Rep at rx
     obtain ⟨p,rfl,hp⟩ := rx
     obtain ⟨vs,h1,r⟩ := hS.ob o _ p hd hp
     obtain ⟨v,h3,h2⟩ := atI_rep r e
     exact .inl ⟨p,vs,i,v,rfl,ry.refI,SqL.of h1,h3,k _ H (Ext.refl _ _) hS h2⟩
   · cases e
 · cases e
theorem fe_ix (ha : FE X a f) (hb : FE X b g) (hs : PlainIx b := by exact fun _ _ => rfl) : FE X (.Subscript a b pos) (e2s opIx f g) := pe_mono (pe_ix ix_seq ha hb hs) fun _ _ _ h => t2 snd_ix h
end
end F
namespace F
open PySem L2 PySem.Spec PyProof.Rows

def eqL (f : D → D → Option Bool) : List D → List D → Option Bool
 | x :: xs,y :: ys => (f x y).bind fun c => (eqL f xs ys).map fun r => c && r
 | [],[] => some true
 | _,_ => some false
def flatD : D → Option V
 | .non => some .non
 | .bl b => some (.bl b)
 | .int i => some (.int i)
 | .str x => some (.str x)
 | _ => none
def eqF (a b : D) : Option Bool := match flatD a,flatD b with
 | some x,some y => some (eqV x y)
 | _,_ => none
def isSeqD : D → Bool
 | .tup _ => true
 | .lst _ => true
 | _ => false
def eqN : Nat → D → D → Option Bool
 | 0,a,b => eqF a b
 | n + 1,a,b => match a,b with
   | .tup xs,.tup ys => eqL (eqN n) xs ys
   | .lst xs,.lst ys => if xs.length = ys.length then eqL (eqN n) xs ys else some false
   | .tup _,.lst _ => some false
   | .lst _,.tup _ => some false
   | a,b => if isSeqD a = true then (if (flatD b).isSome = true then some false else none)
     else if isSeqD b = true then (if (flatD a).isSome = true then some false else none)
     else eqF a b
theorem eqF_some {a b : D} {k : Bool} (h : eqF a b = some k) : ∃ x y,flatD a = some x ∧ flatD b = some y ∧ k = eqV x y := by
 unfold eqF at h
 split at h
 · rename_i x y e1 e2
   exact ⟨x,y,e1,e2,(Option.some.inj h).symm⟩
 · cases h
section
variable {X : Cx} {pins : List (Addr × Obj)} {σ : L2.St} {H : Hp} {s : Shared} {ρ : List Addr} {mg : Str → Option Value}
theorem flat_rep {K} {d : D} {x v : V} (e : flatD d = some x) (r : Rep K mg ρ H d v) : v = x ∧ flatV x = true := by
 cases d with
 | non => cases e; exact ⟨r,rfl⟩
 | bl b => cases e; exact ⟨r,rfl⟩
 | int i => cases e; exact ⟨r,rfl⟩
 | str i => cases e; exact ⟨r,rfl⟩
 | _ => cases e
theorem eqL_len {f : D → D → Option Bool} : ∀ {xs ys : List D} {k : Bool},eqL f xs ys = some k → xs.length ≠ ys.length → k = false
 | [],[],_,_,h => absurd rfl h
 | [],_ :: _,_,h,_ => by cases h; rfl
 | _ :: _,[],_,h,_ => by cases h; rfl
 | x :: xs,y :: ys,k,h,n => by
   obtain ⟨c,_,h⟩ := bindS h
   obtain ⟨r,h2,h⟩ := mapS h
   have := eqL_len h2 (fun z => n (by simp [z]))
   subst this h
   simp
theorem eqL_at {f : D → D → Option Bool} : ∀ {xs ys : List D} {k : Bool},eqL f xs ys = some k → ∀ (j : Nat) (x y : D),xs[j]? = some x → ys[j]? = some y → ∃ c,f x y = some c
 | x :: xs,y :: ys,k,h,0,_,_,e1,e2 => by
   obtain ⟨c,h1,h⟩ := bindS h
   simp at e1 e2; subst e1 e2
   exact ⟨c,h1⟩
 | x :: xs,y :: ys,k,h,j + 1,_,_,e1,e2 => by
   obtain ⟨c,h1,h⟩ := bindS h
   obtain ⟨r,h2,h⟩ := mapS h
   exact eqL_at h2 j _ _ (by simpa using e1) (by simpa using e2)
 | [],_,_,_,_,_,_,e1,_ => by simp at e1
 | _ :: _,[],_,_,_,_,_,_,e2 => by simp at e2
def ansL (f : D → D → Option Bool) (xs ys : List D) (j : Nat) : Bool := match xs[j]?,ys[j]? with
 | some x,some y => (f x y).getD false
 | _,_ => false
theorem eqL_ans {f : D → D → Option Bool} : ∀ {xs ys : List D} {k : Bool},eqL f xs ys = some k → xs.length = ys.length → k = (List.range xs.length).all (ansL f xs ys)
 | [],[],_,h,_ => by cases h; rfl
 | x :: xs,y :: ys,k,h,e => by
   obtain ⟨c,h1,h⟩ := bindS h
   obtain ⟨r,h2,h⟩ := mapS h
   subst h
   have ih := eqL_ans h2 (by simpa using e)
   rw [List.length_cons,List.range_succ_eq_map,List.all_cons,List.all_map]
   have e0 : ansL f (x :: xs) (y :: ys) 0 = c := by simp [ansL,h1]
   have e1 : ((ansL f (x :: xs) (y :: ys)) ∘ Nat.succ) = ansL f xs ys := by funext j; simp [ansL]
   rw [e0,e1,← ih]
 | [],_ :: _,_,_,e => by simp at e
 | _ :: _,[],_,_,e => by simp at e
theorem eqL_ans2 {f : D → D → Option Bool} {xs ys : List D} {k : Bool} (h : eqL f xs ys = some k) : k = ((List.range (min xs.length ys.length)).all (ansL f xs ys) && xs.length == ys.length) := by
 by_cases e : xs.length = ys.length
 · rw [eqL_ans h e,e]; simp
 · rw [eqL_len h e]
   have : (xs.length == ys.length) = false := by simpa using e
   rw [this]; simp
theorem eq_same : ∀ (n : Nat) {d1 d2 : D} {v : V} {k : Bool},Inv X pins σ H s → eqN n d1 d2 = some k → Rep X.K mg ρ H d1 v → Rep X.K mg ρ H d2 v → k = true := by
 intro n
 induction n with
 | zero =>
   intro d1 d2 v k I h r1 r2
   obtain ⟨x,y,e1,e2,rfl⟩ := eqF_some h
   obtain ⟨rfl,f1⟩ := flat_rep e1 r1
   obtain ⟨rfl,f2⟩ := flat_rep e2 r2
   cases v <;> first | (cases f1; done) | (simp [eqV]; done)
 | succ n ih =>
   intro d1 d2 v k I h r1 r2
   have lst : ∀ {xs ys : List D} {vs : List V} {k : Bool},eqL (eqN n) xs ys = some k → RepL X.K mg ρ H xs vs → RepL X.K mg ρ H ys vs → k = true := by
     intro xs
     induction xs with
     | nil =>
       intro ys vs k h q1 q2
       have l1 := q1.length
       have l2 := q2.length
       cases ys with
       | nil => cases h; rfl
       | cons _ _ => rw [← l1] at l2; simp at l2
     | cons x xs ihx =>
       intro ys vs k h q1 q2
       cases ys with
       | nil =>
         have l1 := q1.length
         have l2 := q2.length
         rw [← l2] at l1; simp at l1
       | cons y ys =>
         obtain ⟨c,h1,h⟩ := bindS h
         obtain ⟨r,h2,h⟩ := mapS h
         unfold RepL at q1 q2
         obtain ⟨v1,r1,rfl,a1,b1⟩ := q1
         obtain ⟨v2,r2,e,a2,b2⟩ := q2
         cases e
         rw [← h,ih I h1 a1 a2,ihx h2 b1 b2]
         rfl
   unfold eqN at h
   split at h
   · rename_i xs ys
     obtain ⟨p,vs,rfl,t1,q1⟩ := r1.refT
     obtain ⟨p',vs',e,t2,q2⟩ := r2.refT
     cases e
     have := I.tuple_inj t1.sq t2.sq
     subst this
     exact lst h q1 q2
   · rename_i xs ys
     obtain ⟨p,vs,rfl,t1,q1⟩ := r1.refL
     obtain ⟨p',vs',e,t2,q2⟩ := r2.refL
     cases e
     have := I.list_inj t1.sq t2.sq
     subst this
     rw [if_pos (by rw [q1.length,q2.length])] at h
     exact lst h q1 q2
   · rename_i xs ys
     obtain ⟨p,vs,rfl,t1,q1⟩ := r1.refT
     obtain ⟨p',vs',e,t2,q2⟩ := r2.refL
     cases e
     obtain ⟨_,_,⟨o,e1,c1,_⟩,_⟩ := I.tuple t1.sq
     obtain ⟨_,_,⟨o',_,e2,c2,_⟩,_⟩ := I.list t2.sq
     rw [e1] at e2; cases e2
     rw [c1] at c2
     exact absurd (Value.type.inj c2) (by decide)
   · rename_i xs ys
     obtain ⟨p,vs,rfl,t1,q1⟩ := r1.refL
     obtain ⟨p',vs',e,t2,q2⟩ := r2.refT
     cases e
     obtain ⟨_,_,⟨o,e1,c1,_⟩,_⟩ := I.tuple t2.sq
     obtain ⟨_,_,⟨o',_,e2,c2,_⟩,_⟩ := I.list t1.sq
     rw [e1] at e2; cases e2
     rw [c1] at c2
     exact absurd (Value.type.inj c2) (by decide)
   · split at h
     · rename_i hs
       split at h
       · rename_i hb
         obtain ⟨y,ey⟩ := Option.isSome_iff_exists.mp hb
         obtain ⟨rfl,f2⟩ := flat_rep ey r2
         cases d1 with
         | tup _ => obtain ⟨p,_,rfl,_⟩ := r1.refT; cases f2
         | lst _ => obtain ⟨p,_,rfl,_⟩ := r1.refL; cases f2
         | _ => cases hs
       · cases h
     · split at h
       · rename_i hs
         split at h
         · rename_i hb
           obtain ⟨y,ey⟩ := Option.isSome_iff_exists.mp hb
           obtain ⟨rfl,f2⟩ := flat_rep ey r1
           cases d2 with
           | tup _ => obtain ⟨p,_,rfl,_⟩ := r2.refT; cases f2
           | lst _ => obtain ⟨p,_,rfl,_⟩ := r2.refL; cases f2
           | _ => cases hs
         · cases h
       · obtain ⟨x,y,e1,e2,rfl⟩ := eqF_some h
         obtain ⟨rfl,f1⟩ := flat_rep e1 r1
         obtain ⟨rfl,f2⟩ := flat_rep e2 r2
         cases v <;> first | (cases f1; done) | (simp [eqV]; done)
theorem rc_flat {A : Around} {x y : V} {u w : Value} (ru : RelV x u) (rw' : RelV y w) (fx : flatV x = true) (fy : flatV y = true) : SeqAt.RcAt A s u w (eqV x y) := by
 cases x with
 | non =>
   cases ru
   cases y with
   | non => cases rw'; exact SeqAt.RcAt.none_none
   | bl b => cases rw'; exact SeqAt.RcAt.none_bool b
   | int b => obtain ⟨t,rfl⟩ := rw'; exact SeqAt.RcAt.none_int b t
   | str b => obtain ⟨t,rfl⟩ := rw'; exact SeqAt.RcAt.none_str b t
   | _ => cases fy
 | bl a =>
   cases ru
   cases y with
   | non => cases rw'; exact SeqAt.RcAt.bool_none a
   | bl b => cases rw'; exact SeqAt.RcAt.bool_bool a b
   | int b => obtain ⟨t,rfl⟩ := rw'; exact SeqAt.RcAt.bool_int a b t
   | str b => obtain ⟨t,rfl⟩ := rw'; exact SeqAt.RcAt.bool_str a b t
   | _ => cases fy
 | int a =>
   obtain ⟨t',rfl⟩ := ru
   cases y with
   | non => cases rw'; exact SeqAt.RcAt.int_none a t'
   | bl b => cases rw'; exact SeqAt.RcAt.int_bool a t' b
   | int b => obtain ⟨t,rfl⟩ := rw'; exact SeqAt.RcAt.int_int a t' b t
   | str b => obtain ⟨t,rfl⟩ := rw'; exact SeqAt.RcAt.int_str a t' b t
   | _ => cases fy
 | str a =>
   obtain ⟨t',rfl⟩ := ru
   cases y with
   | non => cases rw'; exact SeqAt.RcAt.str_none a t'
   | bl b => cases rw'; exact SeqAt.RcAt.str_bool a t' b
   | int b => obtain ⟨t,rfl⟩ := rw'; exact SeqAt.RcAt.str_int a t' b t
   | str b => obtain ⟨t,rfl⟩ := rw'; exact SeqAt.RcAt.str_str a t' b t
   | _ => cases fy
 | _ => cases fx
theorem rcne_flat {A : Around} {x y : V} {u w : Value} (ru : RelV x u) (rw' : RelV y w) (fx : flatV x = true) (fy : flatV y = true) : SeqAt.RcNeAt A s u w (!eqV x y) := by
 cases x with
 | non =>
   cases ru
   cases y with
   | non => cases rw'; exact SeqAt.RcNeAt.none_none
   | bl b => cases rw'; exact SeqAt.RcNeAt.none_bool b
   | int b => obtain ⟨t,rfl⟩ := rw'; exact SeqAt.RcNeAt.none_int b t
   | str b => obtain ⟨t,rfl⟩ := rw'; exact SeqAt.RcNeAt.none_str b t
   | _ => cases fy
 | bl a =>
   cases ru
   cases y with
   | non => cases rw'; exact SeqAt.RcNeAt.bool_none a
   | bl b => cases rw'; exact SeqAt.RcNeAt.bool_bool a b
   | int b => obtain ⟨t,rfl⟩ := rw'; exact SeqAt.RcNeAt.bool_int a b t
   | str b => obtain ⟨t,rfl⟩ := rw'; exact SeqAt.RcNeAt.bool_str a b t
   | _ => cases fy
 | int a =>
   obtain ⟨t',rfl⟩ := ru
   cases y with
   | non => cases rw'; exact SeqAt.RcNeAt.int_none a t'
   | bl b => cases rw'; exact SeqAt.RcNeAt.int_bool a t' b
   | int b => obtain ⟨t,rfl⟩ := rw'; exact SeqAt.RcNeAt.int_int a t' b t
   | str b => obtain ⟨t,rfl⟩ := rw'; exact SeqAt.RcNeAt.int_str a t' b t
   | _ => cases fy
 | str a =>
   obtain ⟨t',rfl⟩ := ru
   cases y with
   | non => cases rw'; exact SeqAt.RcNeAt.str_none a t'
   | bl b => cases rw'; exact SeqAt.RcNeAt.str_bool a t' b
   | int b => obtain ⟨t,rfl⟩ := rw'; exact SeqAt.RcNeAt.str_int a t' b t
   | str b => obtain ⟨t,rfl⟩ := rw'; exact SeqAt.RcNeAt.str_str a t' b t
   | _ => cases fy
 | _ => cases fx
theorem items_eq {A : Around} {n : Nat} {xs ys : List D} {vs us : List V} {its its2 : List Value} (hq : ∀ {d1 d2 : D} {v w : V} {a b : Value} {k : Bool},eqN n d1 d2 = some k → Rep X.K mg ρ H d1 v → Rep X.K mg ρ H d2 w → RelV v a → RelV w b → SeqAt.EqAt A s a b k) {k : Bool} (h : eqL (eqN n) xs ys = some k)
   (r1 : RepL X.K mg ρ H xs vs) (r2 : RepL X.K mg ρ H ys us) (q1 : Vals vs its) (q2 : Vals us its2) :
   ∀ j (h1 : j < its.toArray.size) (h2 : j < its2.toArray.size),SeqAt.EqAt A s its.toArray[j] its2.toArray[j] (ansL (eqN n) xs ys j) := by
 intro j h1 h2
 have l1 := r1.length
 have l2 := r2.length
 have l3 := q1.length
 have l4 := q2.length
 rw [List.size_toArray] at h1 h2
 have e1 : xs[j]? = some xs[j] := List.getElem?_eq_getElem (by omega)
 have e2 : ys[j]? = some ys[j] := List.getElem?_eq_getElem (by omega)
 obtain ⟨v,ev,rv⟩ := r1.get e1
 obtain ⟨w,ew,rw'⟩ := r2.get e2
 obtain ⟨a,ea,ra⟩ := q1.get ev
 obtain ⟨b,eb,rb⟩ := q2.get ew
 obtain ⟨c,hc⟩ := eqL_at h j _ _ e1 e2
 have z1 : its.toArray[j] = a := by
   rw [List.getElem?_eq_getElem h1] at ea
   simpa using ea
 have z2 : its2.toArray[j] = b := by
   rw [List.getElem?_eq_getElem h2] at eb
   simpa using eb
 have z3 : ansL (eqN n) xs ys j = c := by simp [ansL,e1,e2,hc]
 rw [z1,z2,z3]
 exact hq hc rv rw' ra rb
theorem eq_ok : ∀ (n : Nat) {A : Around} {d1 d2 : D} {v w : V} {a b : Value} {k : Bool},Inv X pins σ H s → A.units + n < cLine → eqN n d1 d2 = some k → Rep X.K mg ρ H d1 v → Rep X.K mg ρ H d2 w → RelV v a → RelV w b →
   SeqAt.RcAt A s a b k ∧ SeqAt.RcNeAt A s a b (!k) ∧ SeqAt.EqAt A s a b k := by
 intro n
 induction n with
 | zero =>
   intro A d1 d2 v w a b k I hu h r1 r2 ra rb
   obtain ⟨x,y,e1,e2,rfl⟩ := eqF_some h
   obtain ⟨rfl,f1⟩ := flat_rep e1 r1
   obtain ⟨rfl,f2⟩ := flat_rep e2 r2
   exact ⟨rc_flat ra rb f1 f2,rcne_flat ra rb f1 f2,eqAt_V ra rb f1 f2⟩
 | succ n ih =>
   intro A d1 d2 v w a b k I hu h r1 r2 ra rb
   have hs : ∀ {u : V},Rep X.K mg ρ H d1 u → Rep X.K mg ρ H d2 u → k = true := fun a b => eq_same (n + 1) I h a b
   have hin : A.in1.units + n < cLine := by show A.units + 1 + n < cLine; omega
   have hu0 : A.units < cLine := by omega
   have same : ∀ {p q : Addr},v = .ref p → w = .ref q → SeqAt.RcAt A s (.ref p) (.ref q) k → SeqAt.EqAt A s a b k := by
     intro p q e1 e2 rc
     subst e1 e2
     cases ra
     cases rb
     by_cases hpq : p = q
     · subst hpq
       rw [hs r1 r2]
       exact SeqAt.EqAt.same _
     · exact SeqAt.EqAt.of_refs hpq rc
   unfold eqN at h
   split at h
   · rename_i xs ys
     obtain ⟨p,vs,rfl,t1,q1⟩ := r1.refT
     obtain ⟨p',us,rfl,t2,q2⟩ := r2.refT
     cases ra
     cases rb
     obtain ⟨its,z1,pt1,_⟩ := I.tuple t1.sq
     obtain ⟨its2,z2,pt2,_⟩ := I.tuple t2.sq
     have hit := items_eq (A := A.in1) (s := s) (fun e a1 a2 a3 a4 => (ih I hin e a1 a2 a3 a4).2.2) h q1 q2 z1 z2
     have l1 := q1.length
     have l2 := q2.length
     have l3 := z1.length
     have l4 := z2.length
     have ek : k = ((List.range (min its.toArray.size its2.toArray.size)).all (ansL (eqN n) xs ys) && its.toArray.size == its2.toArray.size) := by
       rw [List.size_toArray,List.size_toArray,← l3,← l4,← l1,← l2]
       exact eqL_ans2 h
     have rc := SeqAt.RcAt.tuples (A := A) (s := s) pt1 pt2 hu0 hit
     have rn := SeqAt.RcNeAt.tuples (A := A) (s := s) pt1 pt2 hu0 hit
     rw [← ek] at rc
     refine ⟨rc,?_,same rfl rfl rc⟩
     rw [ek]
     exact rn
   · rename_i xs ys
     obtain ⟨p,vs,rfl,t1,q1⟩ := r1.refL
     obtain ⟨p',us,rfl,t2,q2⟩ := r2.refL
     cases ra
     cases rb
     obtain ⟨its,z1,pt1,_⟩ := I.list t1.sq
     obtain ⟨its2,z2,pt2,_⟩ := I.list t2.sq
     have l1 := q1.length
     have l2 := q2.length
     have l3 := z1.length
     have l4 := z2.length
     split at h
     · rename_i hl
       have hit := items_eq (A := A.in1) (s := s) (fun e a1 a2 a3 a4 => (ih I hin e a1 a2 a3 a4).2.2) h q1 q2 z1 z2
       have hsz : its.toArray.size = its2.toArray.size := by rw [List.size_toArray,List.size_toArray]; omega
       have ek : k = (List.range its.toArray.size).all (ansL (eqN n) xs ys) := by
         rw [List.size_toArray,← l3,← l1]
         exact eqL_ans h hl
       have rc := SeqAt.RcAt.lists (A := A) (s := s) pt1.isList pt2.isList hsz hu0 hit
       have rn := SeqAt.RcNeAt.lists (A := A) (s := s) pt1.isList pt2.isList hsz hu0 hit
       rw [← ek] at rc
       refine ⟨rc,?_,same rfl rfl rc⟩
       rw [ek]
       exact rn
     · rename_i hl
       cases h
       have hsz : (its.toArray.size != its2.toArray.size) = true := by rw [List.size_toArray,List.size_toArray]; simp; omega
       have rc := SeqAt.RcAt.lists_lengths (A := A) (s := s) pt1.isList pt2.isList hsz hu0
       have rn := SeqAt.RcNeAt.lists_lengths (A := A) (s := s) pt1.isList pt2.isList hsz hu0
       exact ⟨rc,rn,same rfl rfl rc⟩
   · rename_i xs ys
     cases h
     obtain ⟨p,vs,rfl,t1,q1⟩ := r1.refT
     obtain ⟨p',us,rfl,t2,q2⟩ := r2.refL
     cases ra
     cases rb
     obtain ⟨its,z1,pt1,_⟩ := I.tuple t1.sq
     obtain ⟨its2,z2,pt2,_⟩ := I.list t2.sq
     exact ⟨SeqAt.RcAt.tuple_list pt1 pt2.isList hu0,SeqAt.RcNeAt.tuple_list pt1 pt2.isList hu0,SeqAt.EqAt.tuple_list pt1 pt2.isList hu0⟩
   · rename_i xs ys
     cases h
     obtain ⟨p,vs,rfl,t1,q1⟩ := r1.refL
     obtain ⟨p',us,rfl,t2,q2⟩ := r2.refT
     cases ra
     cases rb
     obtain ⟨its,z1,pt1,_⟩ := I.list t1.sq
     obtain ⟨its2,z2,pt2,_⟩ := I.tuple t2.sq
     exact ⟨SeqAt.RcAt.list_tuple pt1.isList pt2 hu0,SeqAt.RcNeAt.list_tuple pt1.isList pt2 hu0,SeqAt.EqAt.list_tuple pt1.isList pt2 hu0⟩
   · split at h
     · rename_i hsq
       split at h
       · rename_i hb
         cases h
         obtain ⟨y,ey⟩ := Option.isSome_iff_exists.mp hb
         obtain ⟨rfl,f2⟩ := flat_rep ey r2
         cases d1 with
         | tup _ =>
           obtain ⟨p,vs,rfl,t1,q1⟩ := r1.refT
           cases ra
           obtain ⟨its,z1,pt,_⟩ := I.tuple t1.sq
           cases w with
           | non => cases rb; exact ⟨SeqAt.RcAt.tuple_none pt hu0,SeqAt.RcNeAt.tuple_none pt hu0,SeqAt.EqAt.tuple_none pt hu0⟩
           | bl c => cases rb; exact ⟨SeqAt.RcAt.tuple_bool c pt hu0,SeqAt.RcNeAt.tuple_bool c pt hu0,SeqAt.EqAt.tuple_bool c pt hu0⟩
           | int c => obtain ⟨t,rfl⟩ := rb; exact ⟨SeqAt.RcAt.tuple_int c t pt hu0,SeqAt.RcNeAt.tuple_int c t pt hu0,SeqAt.EqAt.tuple_int c t pt hu0⟩
           | str c => obtain ⟨t,rfl⟩ := rb; exact ⟨SeqAt.RcAt.tuple_str c t pt hu0,SeqAt.RcNeAt.tuple_str c t pt hu0,SeqAt.EqAt.tuple_str c t pt hu0⟩
           | _ => cases f2
         | lst _ =>
           obtain ⟨p,vs,rfl,t1,q1⟩ := r1.refL
           cases ra
           obtain ⟨its,z1,pl,_⟩ := I.list t1.sq
           have pt := pl.isList
           cases w with
           | non => cases rb; exact ⟨SeqAt.RcAt.list_none pt hu0,SeqAt.RcNeAt.list_none pt hu0,SeqAt.EqAt.list_none pt hu0⟩
           | bl c => cases rb; exact ⟨SeqAt.RcAt.list_bool c pt hu0,SeqAt.RcNeAt.list_bool c pt hu0,SeqAt.EqAt.list_bool c pt hu0⟩
           | int c => obtain ⟨t,rfl⟩ := rb; exact ⟨SeqAt.RcAt.list_int c t pt hu0,SeqAt.RcNeAt.list_int c t pt hu0,SeqAt.EqAt.list_int c t pt hu0⟩
           | str c => obtain ⟨t,rfl⟩ := rb; exact ⟨SeqAt.RcAt.list_str c t pt hu0,SeqAt.RcNeAt.list_str c t pt hu0,SeqAt.EqAt.list_str c t pt hu0⟩
           | _ => cases f2
         | _ => cases hsq
       · cases h
     · split at h
       · rename_i hsq
         split at h
         · rename_i hb
           cases h
           obtain ⟨y,ey⟩ := Option.isSome_iff_exists.mp hb
           obtain ⟨rfl,f2⟩ := flat_rep ey r1
           cases d2 with
           | tup _ =>
             obtain ⟨p,vs,rfl,t1,q1⟩ := r2.refT
             cases rb
             obtain ⟨its,z1,pt,_⟩ := I.tuple t1.sq
             cases v with
             | non => cases ra; exact ⟨SeqAt.RcAt.none_tuple pt hu0,SeqAt.RcNeAt.none_tuple pt hu0,SeqAt.EqAt.none_tuple pt hu0⟩
             | bl c => cases ra; exact ⟨SeqAt.RcAt.bool_tuple c pt hu0,SeqAt.RcNeAt.bool_tuple c pt hu0,SeqAt.EqAt.bool_tuple c pt hu0⟩
             | int c => obtain ⟨t,rfl⟩ := ra; exact ⟨SeqAt.RcAt.int_tuple c t pt hu0,SeqAt.RcNeAt.int_tuple c t pt hu0,SeqAt.EqAt.int_tuple c t pt hu0⟩
             | str c => obtain ⟨t,rfl⟩ := ra; exact ⟨SeqAt.RcAt.str_tuple c t pt hu0,SeqAt.RcNeAt.str_tuple c t pt hu0,SeqAt.EqAt.str_tuple c t pt hu0⟩
             | _ => cases f2
           | lst _ =>
             obtain ⟨p,vs,rfl,t1,q1⟩ := r2.refL
             cases rb
             obtain ⟨its,z1,pl,_⟩ := I.list t1.sq
             have pt := pl.isList
             cases v with
             | non => cases ra; exact ⟨SeqAt.RcAt.none_list pt hu0,SeqAt.RcNeAt.none_list pt hu0,SeqAt.EqAt.none_list pt hu0⟩
             | bl c => cases ra; exact ⟨SeqAt.RcAt.bool_list c pt hu0,SeqAt.RcNeAt.bool_list c pt hu0,SeqAt.EqAt.bool_list c pt hu0⟩
             | int c => obtain ⟨t,rfl⟩ := ra; exact ⟨SeqAt.RcAt.int_list c t pt hu0,SeqAt.RcNeAt.int_list c t pt hu0,SeqAt.EqAt.int_list c t pt hu0⟩
             | str c => obtain ⟨t,rfl⟩ := ra; exact ⟨SeqAt.RcAt.str_list c t pt hu0,SeqAt.RcNeAt.str_list c t pt hu0,SeqAt.EqAt.str_list c t pt hu0⟩
             | _ => cases f2
           | _ => cases hsq
         · cases h
       · obtain ⟨x,y,e1,e2,rfl⟩ := eqF_some h
         obtain ⟨rfl,f1⟩ := flat_rep e1 r1
         obtain ⟨rfl,f2⟩ := flat_rep e2 r2
         exact ⟨rc_flat ra rb f1 f2,rcne_flat ra rb f1 f2,eqAt_V ra rb f1 f2⟩
end
def opEq (a b : D) : Option D := (eqN 150 a b).map D.bl
def opNe (a b : D) : Option D := (eqN 150 a b).map fun k => D.bl !k
section
variable {X : Cx} {a b : Expr} {f g : E} {pos : Pos}
def rEqD (K : PySem.W.Frag) (mg : Str → Option Value) (neg : Bool) : R2 := fun x y H Q => ∃ (ρ : List Addr) (d1 d2 : D) (k : Bool),Rep K mg ρ H d1 x ∧ Rep K mg ρ H d2 y ∧ eqN 150 d1 d2 = some k ∧ Q (.bl (if neg then !k else k)) H
theorem op_eqD (hu : X.A.units + 150 < cLine) : OpR X (compareOp .Eq) (rEqD X.K X.mg false) := by
 intro pins s σ H x y v u Q I rx ry h
 obtain ⟨ρ,d1,d2,k,h1,h2,h3,q⟩ := h
 exact (eq_ok 150 I hu h3 h1 h2 rx ry).1 _ _ _ _ ⟨.bl k,H,I,rfl,q⟩
theorem op_neD (hu : X.A.units + 150 < cLine) : OpR X (compareOp .NotEq) (rEqD X.K X.mg true) := by
 intro pins s σ H x y v u Q I rx ry h
 obtain ⟨ρ,d1,d2,k,h1,h2,h3,q⟩ := h
 exact (eq_ok 150 I hu h3 h1 h2 rx ry).2.1 _ _ _ _ ⟨.bl (!k),H,I,rfl,q⟩
theorem snd_eqD {K mg} : Snd2 K mg (rEqD K mg false) (fun _ => opEq) := by
 intro ρ H S x y dx dy d Q hS rx ry e k
 obtain ⟨c,e1,e⟩ := mapS e
 subst e
 exact ⟨ρ,dx,dy,c,rx,ry,e1,k _ H (Ext.refl _ _) hS rfl⟩
theorem snd_neD {K mg} : Snd2 K mg (rEqD K mg true) (fun _ => opNe) := by
 intro ρ H S x y dx dy d Q hS rx ry e k
 obtain ⟨c,e1,e⟩ := mapS e
 subst e
 exact ⟨ρ,dx,dy,c,rx,ry,e1,k _ H (Ext.refl _ _) hS rfl⟩
theorem fe_eq {k : Nat} (hr : Room k X.A) (ha : FE X a f) (hb : FE X b g) (hm : behindInMarks .Eq b = false := by exact nomark _) : FE X (.Compare a [.Eq] [b] pos) (e2 opEq f g) := fe_cmp (op_eqD (by have := hr.un; omega)) snd_eqD ha hb hm
theorem fb_eq {k : Nat} (hr : Room k X.A) (ha : FE X a f) (hb : FE X b g) (hm : behindInMarks .Eq b = false := by exact nomark _) : FB X (.Compare a [.Eq] [b] pos) (bE (e2 opEq f g)) := fb_cmp (op_eqD (by have := hr.un; omega)) snd_eqD ha hb hm
theorem fb_ne {k : Nat} (hr : Room k X.A) (ha : FE X a f) (hb : FE X b g) (hm : behindInMarks .NotEq b = false := by exact nomark _) : FB X (.Compare a [.NotEq] [b] pos) (bE (e2 opNe f g)) := fb_cmp (op_neD (by have := hr.un; omega)) snd_neD ha hb hm
end
end F
namespace F
open PySem L2 PySem.Spec PyProof.Rows

def lenD (S : Sto) : List D → Option D
 | [.lst ds] => some (.int ds.length)
 | [.tup ds] => some (.int ds.length)
 | [.str z] => if z.length ≤ sizeLine then some (.int z.length) else none
 | [.obj a] => (match S[a]? with
   | some (.lst ds) => some (.int ds.length)
   | _ => none)
 | _ => none
def absD (_ : Sto) : List D → Option D
 | [.int i] => some (.int (if i < 0 then -i else i))
 | _ => none
def maxD (_ : Sto) : List D → Option D
 | [.int i,.int j] => some (.int (if j > i then j else i))
 | _ => none
inductive Ty where
 | non | bl | int | str | tup | lst
 deriving DecidableEq
def Ty.name : Ty → String
 | .non => "NoneType" | .bl => "bool" | .int => "int" | .str => "str" | .tup => "tuple" | .lst => "list"
def tyD (S : Sto) : D → Option Ty
 | .non => some .non
 | .bl _ => some .bl
 | .int _ => some .int
 | .str _ => some .str
 | .tup _ => some .tup
 | .lst _ => some .lst
 | .obj a => (match S[a]? with
   | some (.lst _) => some .lst
   | _ => none)
 | _ => none
def isT (t c : Ty) : Bool := decide (t = c) || (decide (t = .bl) && decide (c = .int))
def tyOf? : String → Option Ty
 | "bool" => some .bl | "int" => some .int | "str" => some .str | "tuple" => some .tup | "list" => some .lst | _ => none
def isiD (S : Sto) : List D → Option D
 | [d,.ty n] => (tyOf? n).bind fun c => (tyD S d).map fun t => .bl (isT t c)
 | _ => none
section
variable {X : Cx} {K : PySem.W.Frag} {mg : Str → Option Value}
theorem one {ρ H d xs} (r : RepL K mg ρ H [d] xs) : ∃ v,xs = [v] ∧ Rep K mg ρ H d v := by
 unfold RepL at r
 obtain ⟨v,t,rfl,h1,h2⟩ := r
 unfold RepL at h2
 subst h2
 exact ⟨v,rfl,h1⟩
theorem two {ρ H d e xs} (r : RepL K mg ρ H [d,e] xs) : ∃ v w,xs = [v,w] ∧ Rep K mg ρ H d v ∧ Rep K mg ρ H e w := by
 unfold RepL at r
 obtain ⟨v,t,rfl,h1,h2⟩ := r
 obtain ⟨w,rfl,h3⟩ := one h2
 exact ⟨v,w,rfl,h1,h3⟩
theorem snd_len : SndA K mg (fun xs H Q => (∃ p ys,xs = [.ref p] ∧ (SqL K H p ys ∨ SqT K H p ys) ∧ Q (.int ys.length) H) ∨ (∃ z,xs = [.str z] ∧ z.length ≤ sizeLine ∧ Q (.int z.length) H)) lenD := by
 intro ρ H S xs ds d Q hS r e k
 unfold lenD at e
 split at e
 · cases e
   replace r := one r
   obtain ⟨v,rfl,r⟩ := r
   obtain ⟨p,vs,rfl,t,r⟩ := r.refL
   exact .inl ⟨p,vs,rfl,.inl t.sq,by rw [← r.length]; exact k _ H (Ext.refl _ _) hS rfl⟩
 · cases e
   replace r := one r
   obtain ⟨v,rfl,r⟩ := r
   obtain ⟨p,vs,rfl,t,r⟩ := r.refT
   exact .inl ⟨p,vs,rfl,.inr t.sq,by rw [← r.length]; exact k _ H (Ext.refl _ _) hS rfl⟩
 · split at e
   · rename_i hz
     cases e
     replace r := one r
     obtain ⟨v,rfl,r⟩ := r
     rw [r.refS]
     exact .inr ⟨_,rfl,hz,k _ H (Ext.refl _ _) hS rfl⟩
   · cases e
 · split at e
   · rename_i ds hd
     cases e
     replace r := one r
     obtain ⟨v,rfl,r⟩ := r
     unfold Rep at r
     obtain ⟨p,rfl,hp⟩ := r
     obtain ⟨vs,h1,r⟩ := hS.ob _ _ p hd hp
     exact .inl ⟨p,vs,rfl,.inl (SqL.of h1),by rw [← r.length]; exact k _ H (Ext.refl _ _) hS rfl⟩
   · cases e
 · cases e
variable {e : Expr} {es : List Expr} {p pos : Pos} {g : As}
theorem fe_len (hm : X.mg "len" = none) (ha : FA X [e] g) (hg : Gl X "len" := by rfl) (he : starEach [e] X.env = (false,eval e X.env) :: starEach [] X.env := by exact star_cons rfl) (hpl : (backTo pos (starEach [] X.env)).any (·.1) = false := by exact back_any rfl) : FE X (.Call (.Name "len" p) [e] [] pos) (eA lenD g) :=
 fe_blt (call_len_seq.or call_len_str) snd_len hm PySem.boot_len ha hg (by decide) (by decide) he hpl
theorem snd_abs : SndA K mg (fun xs H Q => ∃ i,xs = [.int i] ∧ Q (.int (if i < 0 then -i else i)) H) absD := by
 intro ρ H S xs ds d Q hS r e k
 unfold absD at e
 split at e
 · cases e
   replace r := one r
   obtain ⟨v,rfl,r⟩ := r
   rw [r.refI]
   exact ⟨_,rfl,k _ H (Ext.refl _ _) hS rfl⟩
 · cases e
theorem fe_abs (hm : X.mg "abs" = none) (ha : FA X [e] g) (hg : Gl X "abs" := by rfl) (he : starEach [e] X.env = (false,eval e X.env) :: starEach [] X.env := by exact star_cons rfl) (hpl : (backTo pos (starEach [] X.env)).any (·.1) = false := by exact back_any rfl) : FE X (.Call (.Name "abs" p) [e] [] pos) (eA absD g) :=
 fe_blt call_abs snd_abs hm (by with_unfolding_all rfl) ha hg (by decide) (by decide) he hpl
theorem snd_max : SndA K mg (fun xs H Q => ∃ i j,xs = [.int i,.int j] ∧ Q (.int (if j > i then j else i)) H) maxD := by
 intro ρ H S xs ds d Q hS r e k
 unfold maxD at e
 split at e
 · cases e
   replace r := two r
   obtain ⟨v,w,rfl,r1,r2⟩ := r
   rw [r1.refI,r2.refI]
   exact ⟨_,_,rfl,k _ H (Ext.refl _ _) hS rfl⟩
 · cases e
theorem fe_max (hm : X.mg "max" = none) (ha : FA X (e :: es) g) (hc : X.calm = true := by rfl) (hg : Gl X "max" := by rfl) (he : starEach (e :: es) X.env = (false,eval e X.env) :: starEach es X.env := by exact star_cons rfl) (hpl : (backTo pos (starEach es X.env)).any (·.1) = false := by exact back_any rfl) : FE X (.Call (.Name "max" p) (e :: es) [] pos) (eA maxD g) :=
 fe_blt (call_max2 hc) snd_max hm (by with_unfolding_all rfl) ha hg (by decide) (by decide) he hpl
theorem fe_bty {x : Str} (n : String) (hm : X.mg x = none) (hv : bootBuiltins x = some (.type n)) (hg : Gl X x := by rfl) (hn : x ≠ "__name__" := by decide) (hd : (x == ("__debug__" : Str)) = false := by decide) : FE X (.Name x pos) (eK (.ty n)) :=
 fe_const (pe_bltn (v := .ty n) hg hm hv rfl hn hd) fun _ _ => rfl
theorem kit_of : ∀ (t c : Ty),c ≠ .non → PySem.W.kitOne K (.type t.name) (.type c.name) = some (isT t c) := by
 intro t c hc
 cases t <;> cases c <;> first | exact absurd rfl hc | rfl | (with_unfolding_all rfl)
theorem tyOf_name {n : String} {c : Ty} (h : tyOf? n = some c) : n = c.name ∧ c ≠ .non := by
 unfold tyOf? at h
 split at h <;> first | (cases h; exact ⟨rfl,by decide⟩) | cases h
def rIsi (K : PySem.W.Frag) : List V → Hp → VK → Prop := fun xs H Q => ∃ (x : V) (t c : Ty),xs = [x,.ty c.name] ∧ c ≠ .non ∧
 (TyOf K H x (.type t.name) ∨ (t = .tup ∧ ∃ p ys,x = .ref p ∧ SqT K H p ys) ∨ (t = .lst ∧ ∃ p ys,x = .ref p ∧ SqL K H p ys)) ∧ Q (.bl (isT t c)) H
theorem call_isi : CallR X (.builtin "isinstance") (rIsi X.K) := by
 intro pins s σ H xs us Q I r h
 obtain ⟨x,t,c,rfl,hc,ht,q⟩ := h
 obtain ⟨u1,u2,rfl,r1,r2⟩ : ∃ u1 u2,us = [u1,u2] ∧ RelV x u1 ∧ RelV (.ty c.name) u2 := by
   cases r with
   | cons p q =>
     cases q with
     | cons p' q' => cases q'; exact ⟨_,_,rfl,p,p'⟩
 cases r2
 rcases ht with ht | ⟨rfl,p,ys,rfl,hp⟩ | ⟨rfl,p,ys,rfl,hp⟩
 · exact isinst_ok I r1 ht (kit_of t c hc) fun tk => ⟨.bl _,H,I.tok tk,rfl,q⟩
 · cases r1
   obtain ⟨its,_,⟨o,h1,h2,_⟩,_⟩ := I.tuple hp
   exact PySem.W.kia_one PySem.W.kitx_tuple I.kIn ⟨o,h1,h2⟩ (kit_of .tup c hc) (fun z => nomatch z) fun tk => ⟨.bl _,H,I.tok tk,rfl,q⟩
 · cases r1
   obtain ⟨its,_,⟨o,n,h1,h2,_,_⟩,_⟩ := I.list hp
   exact PySem.W.kia_one PySem.W.kitx_list I.kIn ⟨o,h1,h2⟩ (kit_of .lst c hc) (fun z => nomatch z) fun tk => ⟨.bl _,H,I.tok tk,rfl,q⟩
theorem snd_isi : SndA K mg (rIsi K) isiD := by
 intro ρ H S xs ds d Q hS r e k
 unfold isiD at e
 split at e
 · rename_i d' n
   obtain ⟨c,hc,e⟩ := bindS e
   obtain ⟨t,ht,e⟩ := mapS e
   subst e
   obtain ⟨rfl,hn⟩ := tyOf_name hc
   replace r := two r
   obtain ⟨v,w,rfl,r1,r2⟩ := r
   have r2 : w = .ty _ := r2
   subst r2
   refine ⟨v,t,c,rfl,hn,?_,k _ H (Ext.refl _ _) hS rfl⟩
   unfold tyD at ht
   split at ht
   · cases ht; rw [show v = .non from r1]; exact .inl .non
   · cases ht; rw [show v = .bl _ from r1]; exact .inl (.bl _)
   · cases ht; rw [show v = .int _ from r1]; exact .inl (.int _)
   · cases ht; rw [show v = .str _ from r1]; exact .inl (.str _)
   · cases ht
     obtain ⟨p,vs,rfl,tt,_⟩ := r1.refT
     exact .inr (.inl ⟨rfl,p,vs,rfl,tt.sq⟩)
   · cases ht
     obtain ⟨p,vs,rfl,tt,_⟩ := r1.refL
     exact .inr (.inr ⟨rfl,p,vs,rfl,tt.sq⟩)
   · split at ht
     · rename_i ds hd
       cases ht
       unfold Rep at r1
       obtain ⟨p,rfl,hp⟩ := r1
       obtain ⟨vs,h1,_⟩ := hS.ob _ _ p hd hp
       exact .inr (.inr ⟨rfl,p,vs,rfl,SqL.of h1⟩)
     · cases ht
   · cases ht
 · cases e
theorem fe_isi (hm : X.mg "isinstance" = none) (ha : FA X (e :: es) g) (hg : Gl X "isinstance" := by rfl) (he : starEach (e :: es) X.env = (false,eval e X.env) :: starEach es X.env := by exact star_cons rfl) (hpl : (backTo pos (starEach es X.env)).any (·.1) = false := by exact back_any rfl) : FE X (.Call (.Name "isinstance" p) (e :: es) [] pos) (eA isiD g) :=
 fe_blt call_isi snd_isi hm (by with_unfolding_all rfl) ha hg (by decide) (by decide) he hpl

def cutD (xs : List D) (lo hi : Option Int) : List D := (xs.drop (HT.sIx xs.length 0 lo)).take (HT.sIx xs.length xs.length hi - HT.sIx xs.length 0 lo)
def opSl : D → Option Int → Option Int → Option D
 | .lst ds,lo,hi => some (.lst (cutD ds lo hi))
 | .tup ds,lo,hi => if HT.sIx ds.length 0 lo = 0 ∧ HT.sIx ds.length ds.length hi = ds.length then none else some (.tup (cutD ds lo hi))
 | _,_,_ => none
abbrev Pt := Ev → Sto → Option (Option Int × Sto)
def pN : Pt := fun _ S => some (none,S)
def pE (f : E) : Pt := fun ev S => (f ev S).bind fun p => match p.1 with
 | .int i => some (some i,p.2)
 | _ => none
def eSl (f : E) (a b : Pt) : E := fun ev S => (f ev S).bind fun p => (a ev p.2).bind fun q => (b ev q.2).bind fun r => (opSl p.1 q.1 r.1).map fun d => (d,r.2)
def tPt (K : PySem.W.Frag) (mg : Str → Option Value) (f : Pt) : TO := fun σ H Q => ∃ ρ ev S o S',EnvR K mg ρ H ev σ ∧ StOk K mg ρ H S ∧ f ev S = some (o,S') ∧ ∀ ρ' H',Ext ρ H ρ' H' → StOk K mg ρ' H' S' → Q o H'
def FPt (X : Cx) (e : Option Expr) (f : Pt) : Prop := PO X e (tPt X.K X.mg f)
theorem po_mono {e : Option Expr} {t t' : TO} (h : PO X e t) (m : ∀ σ H Q,t' σ H Q → t σ H Q) : PO X e t' := fun pins s σ H Q I q => h pins s σ H Q I (m _ _ _ q)
theorem fp_none : FPt X none pN := po_mono po_none fun σ H Q h => by
 obtain ⟨ρ,ev,S,o,S',hE,hS,hf,k⟩ := h
 cases hf
 exact k ρ H (Ext.refl _ _) hS
theorem fp_some {f : E} (h : FE X e f) : FPt X (some e) (pE f) := po_mono (po_some h) fun σ H Q h => by
 obtain ⟨ρ,ev,S,o,S',hE,hS,hf,k⟩ := h
 obtain ⟨⟨x,S1⟩,q1,hf⟩ := bindS hf
 cases x with
 | int i =>
   cases hf
   exact ⟨ρ,ev,S,_,_,hE,hS,q1,fun v ρ1 H1 E1 hS1 r1 => ⟨i,r1,k ρ1 H1 E1 hS1⟩⟩
 | _ => cases hf
theorem cut_rep {ρ H ds vs} (r : RepL K mg ρ H ds vs) (lo hi : Option Int) : RepL K mg ρ H (cutD ds lo hi) (cutV vs lo hi) := by
 unfold cutD cutV
 rw [r.length]
 exact (r.drop _).take _
theorem fe_slice {a : Expr} {lo hi : Option Expr} {f : E} {u w : Pt} {p2 : Pos} (ha : FE X a f) (hl : FPt X lo u) (hh : FPt X hi w) : FE X (.Subscript a (.Slice lo hi none p2) pos) (eSl f u w) :=
 pe_mono (pe_slice (sl_list.or sl_tup) ha hl hh) fun σ H Q h => by
   obtain ⟨ρ,ev,S,d,S',hE,hS,hf,k⟩ := h
   obtain ⟨⟨x,S1⟩,q1,hf⟩ := bindS hf
   obtain ⟨⟨lo,S2⟩,q2,hf⟩ := bindS hf
   obtain ⟨⟨hi,S3⟩,q3,hf⟩ := bindS hf
   obtain ⟨z,q4,hf⟩ := mapS hf
   cases hf
   refine ⟨ρ,ev,S,x,S1,hE,hS,q1,fun v ρ1 H1 E1 hS1 r1 => ⟨ρ1,ev,S1,lo,S2,hE.mono E1,hS1,q2,fun ρ2 H2 E2 hS2 => ⟨ρ2,ev,S2,hi,_,(hE.mono E1).mono E2,hS2,q3,fun ρ3 H3 E3 hS3 => ?_⟩⟩⟩
   have r3 := (r1.mono E2).mono E3
   have E := (E1.trans E2).trans E3
   cases x with
   | lst ds =>
     cases q4
     obtain ⟨p,vs,rfl,t,r⟩ := r3.refL
     exact .inl ⟨p,vs,rfl,t.sq,fun b hb => k _ _ _ (E.trans (ext_new hS3 _ hb)) (hS3.new _ hb) (Rep.lst (s := hS3) hb (cut_rep r lo hi))⟩
   | tup ds =>
     replace q4 : (if HT.sIx ds.length 0 lo = 0 ∧ HT.sIx ds.length ds.length hi = ds.length then none else some (D.tup (cutD ds lo hi))) = some d := q4
     split at q4
     · cases q4
     · rename_i hn
       cases q4
       obtain ⟨p,vs,rfl,t,r⟩ := r3.refT
       exact .inr ⟨p,vs,rfl,t.sq,by rw [← r.length]; exact hn,fun b hb => k _ _ _ (E.trans (ext_new hS3 _ hb)) (hS3.new _ hb) (Rep.tup (s := hS3) hb (cut_rep r lo hi))⟩
   | _ => cases q4
theorem fs_append {o : Expr} {f h : E} {apos spos : Pos} (ho : FE X o f) (hv : FE X e h)
   (hbase : attributeBase o "append" X.env (eval o X.env) = eval o X.env := by rfl)
   (hfew : ((backTo pos (starEach [e] X.env)).all (fun x => !x.1) && (backToKw pos (keywordEach [] X.env)).all (fun x => x.1.isSome)
     && decide ([e].length + ([] : List Keyword).length + (if ([] : List Keyword).isEmpty then 0 else 1) < 30)) = true := by rfl)
   (hline : (apos.endLine == pos.line) = true := by rfl) (hs : starEach [e] X.env = (false,eval e X.env) :: starEach [] X.env := by exact star_cons rfl) (hplain : (backTo pos (starEach [] X.env)).any (·.1) = false := by exact back_any rfl)
   (hsw : swapsWith (.Call (.Attribute o "append" apos) [e] [] pos) none spos.line X.env = pure false := by rfl) :
   FS X (.Expr (.Call (.Attribute o "append" apos) [e] [] pos) spos) (sAppend f h) :=
 ps_mono (ps_expr (pe_bm PySem.F.plainAttrs_list PySem.F.slot_list_append PySem.F.type_list_append mt_append ho (fa_cons hv fa_nil hs) hbase hfew hline hs hplain) hsw) fun σ H D h => by
   obtain ⟨ρ,ev,S,o,S',hE,hS,hf,k⟩ := h
   obtain ⟨⟨x,S1⟩,q1,hf⟩ := bindS hf
   cases x with
   | obj a =>
     dsimp only at hf
     split at hf
     · rename_i ds0 hd0
       obtain ⟨⟨y,S2⟩,q2,hf⟩ := bindS hf
       dsimp only at hf
       split at hf
       · rename_i ds hd
         split at hf
         · rename_i hl
           cases hf
           refine ⟨ρ,ev,S,_,S1,hE,hS,q1,fun v ρ1 H1 E1 hS1 r1 => ?_⟩
           have r1' := r1
           unfold Rep at r1'
           obtain ⟨p,rfl,hp⟩ := r1'
           obtain ⟨us0,hu0,_⟩ := hS1.ob a _ p hd0 hp
           refine ⟨.inl ⟨rfl,_,SqL.of hu0⟩,ρ1,ev,S1,[y],S2,hE.mono E1,hS1,by simp only [aC,aN,q2,Option.bind_some],fun vs ρ2 H2 E2 hS2 r2 => ?_⟩
           obtain ⟨w,rfl,r3⟩ := one r2
           have hp2 := E2.pre _ _ hp
           obtain ⟨us,h2,h3⟩ := hS2.ob a _ p hd hp2
           have e0 := ext_set hS2 (.lst (us ++ [w])) hp2
           refine ⟨p,us,w,rfl,rfl,h2,by rw [← h3.length]; exact hl,?_⟩
           refine k σ ρ2 _ ((E1.trans E2).trans e0) (hS2.set hp2 ⟨_,upd_same,?_⟩) (((hE.mono E1).mono E2).mono e0)
           exact (h3.append (RepL.cons r3 RepL.nil)).mono e0
         · cases hf
       · cases hf
     · cases hf
   | _ => cases hf
theorem boot_tuple : bootBuiltins "tuple" = some (.type "tuple") := by with_unfolding_all rfl
theorem boot_int : bootBuiltins "int" = some (.type "int") := by with_unfolding_all rfl
theorem boot_bool : bootBuiltins "bool" = some (.type "bool") := by with_unfolding_all rfl
end
end F
namespace F
open PySem L2 PySem.Spec PyProof.Rows

def dflt (n : Nat) (g : G) : G := fun ds S => g (ds ++ List.replicate n .non) S
theorem names_cons (i : Nat) {X : Cx} {x : Str} {px : Pos} {es : List Expr} {is : List Nat} {t : TGs} (hN : X.N.Nodup) (h : Names X es is t) (hi : X.N[i]? = some x := by rfl) (hx : Loc X.env.scope x := by first | exact Or.inl rfl | exact Or.inr rfl)
   (hf : X.fn x = true ∨ X.env.scope.names.lookup x = some .local := by first | exact .inl rfl | exact .inr rfl | assumption)
   (hs : (assignEach (.Name x px :: es) X.env).map (·.2) = assign (.Name x px) X.env :: (assignEach es X.env).map (·.2) := by rfl) : Names X (.Name x px :: es) (i :: is) (gCons (gName i) t) :=
 .cons hN hi hx hf h (pgs_cons (pg_name hN hi hx hf) h.pgs hs)
def DfOk (K : PySem.W.Frag) (dV : Value) : Nat → Prop
 | 0 => dV = .none
 | n + 1 => ∃ (T : Addr) (o : Obj) (m : Nat),dV = .ref T ∧ K.lookup T = some o ∧ o.data = .seq (Array.replicate (n + 1) Value.none) m
structure HasDef (K : PySem.W.Frag) (mg : Str → Option Value) (x : Str) (st : Stmt) (nd : Nat) : Prop where
 ex : ∃ (f : Addr) (fd : FuncData) (dV : Value),FunD K x x st f fd dV ∧ mg x = some (.ref f) ∧ DfOk K dV nd
structure HasMth (K : PySem.W.Frag) (mg : Str → Option Value) (c m qual : Str) (st : Stmt) : Prop where
 ex : ∃ (C f : Addr) (fd : FuncData),FunD K m qual st f fd .none ∧ mg c = some (.ref C) ∧ Cls K C ∧ Meth K C m f
structure HasMk (K : PySem.W.Frag) (mg : Str → Option Value) (c qual : Str) (st : Stmt) (nd : Nat) : Prop where
 ex : ∃ (C f : Addr) (fd : FuncData) (dV : Value),FunD K "__init__" qual st f fd dV ∧ mg c = some (.ref C) ∧ Mk K C f ∧ DfOk K dV nd
def Bnd0 (x qual : Str) (st : Stmt) (ps : List Str) : Prop := ∀ (kV doc pm : Value) (an : Option Addr) (cdv ct : Value) (us : List Value),us.length = ps.length →
 bindArgs (PySem.W.fnOf x qual (defArgs st) (defBody st) (defScope st) .none kV doc pm an cdv ct) ⟨us,[]⟩ = pure (ps.zip us)
def Bnd1 (x qual : Str) (st : Stmt) (ps : List Str) (n : Nat) : Prop := ∀ (T : Addr) (kV doc pm : Value) (an : Option Addr) (cdv ct : Value) (us : List Value),us.length = n →
 ∃ kk,bindArgs (PySem.W.fnOf x qual (defArgs st) (defBody st) (defScope st) (.ref T) kV doc pm an cdv ct) ⟨us,[]⟩ = (seqItems? (.ref T) >>= kk) ∧ kk (some #[Value.none]) = pure (ps.zip (us ++ List.replicate (ps.length - n) Value.none))
section
variable {P : Program} {w : World} {K : PySem.W.Frag} {mg : Str → Option Value} {base : Heap} {x qual c m : Str} {st : Stmt} {N ps : List Str} {k : Nat} {b : C} {dV : Value} {f : Addr} {fd : FuncData}
abbrev Body (P : Program) (w : World) (K : PySem.W.Frag) (mg : Str → Option Value) (base : Heap) (N : List Str) (qual : Str) (st : Stmt) (k : Nat) (b : C) : Prop :=
 ∀ (f : Addr) (cdv : Value) (A : Around) (outer : List Env) (s : Shared) (H : Hp) (E : XK),Room k (A.deeper (envOfC qual (defScope st) s.heap.objs.size f cdv)) →
     FSs (cxOf CX0 P w K mg base N qual (defScope st) f cdv A outer s H E).nox (defBody st) b
theorem FunD.binds0 (F : FunD K x qual st f fd .none) (h : Bnd0 x qual st ps) : Binds K fd ps [] := by
 obtain ⟨oc,od,kV,doc,pm,an,cdv,ct,osl,rfl,lk,hcd⟩ := F.ex
 exact .all (h kV doc pm an cdv ct)
theorem FunD.binds1 (F : FunD K x qual st f fd dV) (hd : DfOk K dV 1) {n : Nat} (h : Bnd1 x qual st ps n) (hn : n ≤ ps.length) : Binds K fd ps (List.replicate (ps.length - n) Value.none) := by
 obtain ⟨oc,od,kV,doc,pm,an,cdv,ct,osl,rfl,lk,hcd⟩ := F.ex
 obtain ⟨T,o,mm,rfl,hT,ho⟩ := hd
 intro s us hK hl
 obtain ⟨kk,h1,h2⟩ := h T kV doc pm an cdv ct us (by rw [List.length_append,List.length_replicate] at hl; omega)
 exact BindsTo.of_defaults rfl (hK T o hT) ho h1 h2
theorem vals_non : ∀ n : Nat,Vals (List.replicate n V.non) (List.replicate n Value.none)
 | 0 => .nil
 | n + 1 => .cons rfl (vals_non n)
theorem rep_non {ρ H} : ∀ n : Nat,RepL K mg ρ H (List.replicate n D.non) (List.replicate n V.non)
 | 0 => RepL.nil
 | n + 1 => RepL.cons rfl (rep_non n)
theorem fn_none : FnOk P w K mg base CX0 k f fd ps (spG K mg fun _ _ => none) := by
 have no : ∀ vs H Q E,¬ spG K mg (fun _ _ => none) vs H Q E := fun vs H Q E h => by
   obtain ⟨_,_,_,_,_,_,_,h,_⟩ := h
   cases h
 exact ⟨fun vs H Q E h => absurd h (no vs H Q E),fun A outer s H args us vs Q E _ _ _ _ h => absurd h (no vs H Q E)⟩
theorem HasDef.cal (h : HasDef K mg x st 0) (S : FnScope N ps (defScope st)) (hb : Bnd0 x x st ps) (hbody : Body P w K mg base N x st k b) : Cal P w K mg base (k + 1) x (bodyF N.length ps.length b) := by
 obtain ⟨f,fd,dV,F,hm,rfl⟩ := h.ex
 exact ⟨f,fd,ps,[],[],[],_,F.ok S fun cdv A outer s H E hr => hbody f cdv A outer s H E hr,hm,F.kp,F.binds0 hb,.nil,fun _ _ => RepL.nil,fun args S r e => by rw [List.append_nil]; exact e⟩
theorem HasDef.none0 (h : HasDef K mg x st 0) (hb : Bnd0 x x st ps) : Cal P w K mg base k x (fun _ _ => none) := by
 obtain ⟨f,fd,dV,F,hm,rfl⟩ := h.ex
 exact ⟨f,fd,ps,[],[],[],_,fn_none,hm,F.kp,F.binds0 hb,.nil,fun _ _ => RepL.nil,fun args S r e => by cases e⟩
theorem HasDef.cal1 (h : HasDef K mg x st 1) (S : FnScope N ps (defScope st)) (hb : Bnd1 x x st ps ps.length) (hbody : Body P w K mg base N x st k b) : Cal P w K mg base (k + 1) x (bodyF N.length ps.length b) := by
 obtain ⟨f,fd,dV,F,hm,hd⟩ := h.ex
 have B := F.binds1 hd hb (Nat.le_refl _)
 rw [Nat.sub_self] at B
 exact ⟨f,fd,ps,[],[],[],_,F.ok S fun cdv A outer s H E hr => hbody f cdv A outer s H E hr,hm,F.kp,B,.nil,fun _ _ => RepL.nil,fun args S r e => by rw [List.append_nil]; exact e⟩
theorem HasDef.none1 (h : HasDef K mg x st 1) (hb : Bnd1 x x st ps ps.length) : Cal P w K mg base k x (fun _ _ => none) := by
 obtain ⟨f,fd,dV,F,hm,hd⟩ := h.ex
 have B := F.binds1 hd hb (Nat.le_refl _)
 rw [Nat.sub_self] at B
 exact ⟨f,fd,ps,[],[],[],_,fn_none,hm,F.kp,B,.nil,fun _ _ => RepL.nil,fun args S r e => by cases e⟩
theorem HasDef.cal1d (h : HasDef K mg x st 1) (S : FnScope N ps (defScope st)) {n : Nat} (hn : ps.length = n + 1) (hb : Bnd1 x x st ps n) (hbody : Body P w K mg base N x st k b) : Cal P w K mg base (k + 1) x (dflt 1 (bodyF N.length ps.length b)) := by
 obtain ⟨f,fd,dV,F,hm,hd⟩ := h.ex
 have B := F.binds1 hd hb (by omega)
 rw [hn,Nat.add_sub_cancel_left] at B
 exact ⟨f,fd,ps,_,_,_,_,F.ok S fun cdv A outer s H E hr => hbody f cdv A outer s H E hr,hm,F.kp,B,vals_non 1,fun _ _ => rep_non 1,fun args S r e => e⟩
theorem HasDef.none1d (h : HasDef K mg x st 1) {n : Nat} (hn : ps.length = n + 1) (hb : Bnd1 x x st ps n) : Cal P w K mg base k x (dflt 1 (fun _ _ => none)) := by
 obtain ⟨f,fd,dV,F,hm,hd⟩ := h.ex
 have B := F.binds1 hd hb (by omega)
 rw [hn,Nat.add_sub_cancel_left] at B
 exact ⟨f,fd,ps,_,_,_,_,fn_none,hm,F.kp,B,vals_non 1,fun _ _ => rep_non 1,fun args S r e => e⟩
theorem HasMth.mth (h : HasMth K mg c m qual st) (S : FnScope N ps (defScope st)) (hb : Bnd0 m qual st ps) (hbody : Body P w K mg base N qual st k b) : Mth P w K mg base (k + 1) c m (bodyF N.length ps.length b) := by
 obtain ⟨C,f,fd,F,hm,hc,hme⟩ := h.ex
 exact ⟨C,f,fd,ps,[],[],[],_,F.ok S fun cdv A outer s H E hr => hbody f cdv A outer s H E hr,hm,hc,hme,F.binds0 hb,.nil,fun _ _ => RepL.nil,fun args S r e => by rw [List.append_nil]; exact e⟩
theorem HasMk.mk1 (h : HasMk K mg c qual st 1) (S : FnScope N ps (defScope st)) (hb : Bnd1 "__init__" qual st ps ps.length) (hbody : Body P w K mg base N qual st k b) : Mak P w K mg base (k + 1) c (bodyF N.length ps.length b) := by
 obtain ⟨C,f,fd,dV,F,hm,hme,hd⟩ := h.ex
 have B := F.binds1 hd hb (Nat.le_refl _)
 rw [Nat.sub_self] at B
 exact ⟨C,f,fd,ps,[],[],[],_,F.ok S fun cdv A outer s H E hr => hbody f cdv A outer s H E hr,hm,hme,B,.nil,fun _ _ => RepL.nil,fun args S r e => by rw [List.append_nil]; exact e⟩
theorem HasMk.mk1d (h : HasMk K mg c qual st 1) (S : FnScope N ps (defScope st)) {n : Nat} (hn : ps.length = n + 1) (hb : Bnd1 "__init__" qual st ps n) (hbody : Body P w K mg base N qual st k b) : Mak P w K mg base (k + 1) c (dflt 1 (bodyF N.length ps.length b)) := by
 obtain ⟨C,f,fd,dV,F,hm,hme,hd⟩ := h.ex
 have B := F.binds1 hd hb (by omega)
 rw [hn,Nat.add_sub_cancel_left] at B
 exact ⟨C,f,fd,ps,_,_,_,_,F.ok S fun cdv A outer s H E hr => hbody f cdv A outer s H E hr,hm,hme,B,vals_non 1,fun _ _ => rep_non 1,fun args S r e => e⟩
end
section
variable {K : PySem.W.Frag} {h : Heap} {mg : Str → Option Value} (X : K.In h) (G : h.Ns mainGlobals mg)
include X G
theorem has_def {x : Str} {st : Stmt} {f : Addr} {oc : Value} {od an : Option Addr} {osl : Array (Option Value)} {kV doc pm cdv ct : Value} (a : PySem.W.nsIn K mainGlobals x = some (some (.ref f)))
   (l : K.lookup f = some ⟨oc,od,.func (PySem.W.fnOf x x (defArgs st) (defBody st) (defScope st) .none kV doc pm an cdv ct),osl⟩) (c : PySem.W.codeIn K cdv x = true) (k : PySem.W.keepIn K (.ref f) = true) : HasDef K mg x st 0 :=
 ⟨f,_,.none,⟨⟨oc,od,kV,doc,pm,an,cdv,ct,osl,rfl,l,c⟩,k⟩,PySem.W.mg_of X G a,rfl⟩
theorem has_def1 {x : Str} {st : Stmt} {f T : Addr} {oc tc : Value} {od an td : Option Addr} {osl tsl : Array (Option Value)} {kV doc pm cdv ct : Value} {m : Nat} (a : PySem.W.nsIn K mainGlobals x = some (some (.ref f)))
   (l : K.lookup f = some ⟨oc,od,.func (PySem.W.fnOf x x (defArgs st) (defBody st) (defScope st) (.ref T) kV doc pm an cdv ct),osl⟩) (c : PySem.W.codeIn K cdv x = true) (k : PySem.W.keepIn K (.ref f) = true)
   (t : K.lookup T = some ⟨tc,td,.seq #[Value.none] m,tsl⟩) : HasDef K mg x st 1 :=
 ⟨f,_,.ref T,⟨⟨oc,od,kV,doc,pm,an,cdv,ct,osl,rfl,l,c⟩,k⟩,PySem.W.mg_of X G a,T,_,m,rfl,t,rfl⟩
theorem has_mth {cn m qual : Str} {st : Stmt} {C f : Addr} {oc : Value} {od an : Option Addr} {osl : Array (Option Value)} {kV doc pm cdv ct : Value} (aC : PySem.W.nsIn K mainGlobals cn = some (some (.ref C))) (hc : Cls K C)
   (a : PySem.W.findIn K (.ref C) m = some (some (.ref f))) (i : PySem.W.isFn K (.ref f) = true)
   (l : K.lookup f = some ⟨oc,od,.func (PySem.W.fnOf m qual (defArgs st) (defBody st) (defScope st) .none kV doc pm an cdv ct),osl⟩) (c : PySem.W.codeIn K cdv qual = true) (k : PySem.W.keepIn K (.ref f) = true) : HasMth K mg cn m qual st :=
 ⟨C,f,_,⟨⟨oc,od,kV,doc,pm,an,cdv,ct,osl,rfl,l,c⟩,k⟩,PySem.W.mg_of X G aC,hc,⟨a,i,k⟩⟩
theorem has_mk1 {cn qual : Str} {st : Stmt} {C f T : Addr} {oc tc : Value} {od an td : Option Addr} {osl tsl : Array (Option Value)} {kV doc pm cdv ct : Value} {m : Nat} (aC : PySem.W.nsIn K mainGlobals cn = some (some (.ref C)))
   (mk : PySem.W.makesIn K C = true) (kc : PySem.W.keepIn K (.ref C) = true) (a : PySem.W.findIn K (.ref C) "__init__" = some (some (.ref f))) (i : PySem.W.isFn K (.ref f) = true)
   (l : K.lookup f = some ⟨oc,od,.func (PySem.W.fnOf "__init__" qual (defArgs st) (defBody st) (defScope st) (.ref T) kV doc pm an cdv ct),osl⟩) (c : PySem.W.codeIn K cdv qual = true) (k : PySem.W.keepIn K (.ref f) = true)
   (t : K.lookup T = some ⟨tc,td,.seq #[Value.none] m,tsl⟩) : HasMk K mg cn qual st 1 :=
 ⟨C,f,_,.ref T,⟨⟨oc,od,kV,doc,pm,an,cdv,ct,osl,rfl,l,c⟩,k⟩,PySem.W.mg_of X G aC,⟨mk,a,i,kc⟩,T,_,m,rfl,t,rfl⟩
theorem has_cls {cn : Str} {C : Addr} (aC : PySem.W.nsIn K mainGlobals cn = some (some (.ref C))) (pg : PySem.W.plainGet K C Str.empty = true) (hd : PySem.W.hasDictIn K C = true) (po : PySem.W.plainOver K C = true) (sa : PySem.W.findIn K (.ref C) "__setattr__" = some (some (.builtin "object.__setattr__"))) : Cls K C := ⟨pg,hd,po,sa⟩
theorem has_fld {cn n : Str} {C : Addr} (aC : PySem.W.nsIn K mainGlobals cn = some (some (.ref C))) (hc : Cls K C) (a : PySem.W.findIn K (.ref C) n = some none) : Fld K mg cn n := fun C' e => by
 rw [PySem.W.mg_of X G aC] at e
 cases e
 exact ⟨hc,a⟩
theorem has_int {x : Str} {n : Int} {t : Tok} (a : PySem.W.nsIn K mainGlobals x = some (some (.int n t))) : ∃ t,mg x = some (.int n t) := ⟨t,PySem.W.mg_of X G a⟩
end
theorem rep_ints {K mg ρ H} : ∀ ns : List Int,RepL K mg ρ H (ns.map D.int) (ns.map V.int)
 | [] => RepL.nil
 | _ :: ns => RepL.cons rfl (rep_ints ns)
end F
namespace F
open PySem L2 PySem.Spec PyProof.Rows
def eChain (op op' : D → D → Option D) (f g h : E) : E := fun ev S => (f ev S).bind fun p => (g ev p.2).bind fun q => (op p.1 q.1).bind fun z => match z with
 | .bl true => (h ev q.2).bind fun r => (op' q.1 r.1).map fun d => (d,r.2)
 | .bl false => some (.bl false,q.2)
 | _ => none
theorem ls1 {P : List Value → Prop} (h : ∀ a0,P [a0]) (us : List Value) (hl : us.length = 1) : P us := match us,hl with
 | [a0],_ => h a0
theorem ls2 {P : List Value → Prop} (h : ∀ a0 a1,P [a0,a1]) (us : List Value) (hl : us.length = 2) : P us := match us,hl with
 | [a0,a1],_ => h a0 a1
theorem ls3 {P : List Value → Prop} (h : ∀ a0 a1 a2,P [a0,a1,a2]) (us : List Value) (hl : us.length = 3) : P us := match us,hl with
 | [a0,a1,a2],_ => h a0 a1 a2
theorem ls4 {P : List Value → Prop} (h : ∀ a0 a1 a2 a3,P [a0,a1,a2,a3]) (us : List Value) (hl : us.length = 4) : P us := match us,hl with
 | [a0,a1,a2,a3],_ => h a0 a1 a2 a3
end F
namespace F
open PySem L2 PySem.Spec PyProof.Rows
section
variable {X : Cx} {e : Expr} {es : List Expr} {f : E} {g : As} {p pos : Pos}
theorem t_chain {R R' : R2} {op op' : D → D → Option D} {f g h : E} {σ : L2.St} {H : Hp} {Q : VK} (hs : Snd2 X.K X.mg R fun _ => op) (hs' : Snd2 X.K X.mg R' fun _ => op') (h0 : tE X.K X.mg (eChain op op' f g h) σ H Q) : tChain R R' (tE X.K X.mg f) (tE X.K X.mg g) (tE X.K X.mg h) σ H Q := by
 obtain ⟨ρ,ev,S,d,S',hE,hS,hf,k⟩ := h0
 obtain ⟨⟨x,S1⟩,q1,hf⟩ := bindS hf
 obtain ⟨⟨y,S2⟩,q2,hf⟩ := bindS hf
 obtain ⟨z,q3,hf⟩ := bindS hf
 refine ⟨ρ,ev,S,x,S1,hE,hS,q1,fun v ρ1 H1 E1 hS1 r1 => ⟨ρ1,ev,S1,y,S2,hE.mono E1,hS1,q2,fun u ρ2 H2 E2 hS2 r2 => ?_⟩⟩
 refine hs ρ2 H2 _ v u x y z _ hS2 (r1.mono E2) r2 q3 fun w H3 E3 hS3 r3 => ?_
 dsimp only at hf
 split at hf
 · obtain ⟨⟨t,S4⟩,q4,hf⟩ := bindS hf
   obtain ⟨dd,q5,hf⟩ := mapS hf
   cases hf
   refine ⟨true,r3,ρ2,ev,S2,t,S4,((hE.mono E1).mono E2).mono E3,hS3,q4,fun tv ρ4 H4 E4 hS4 r4 => ?_⟩
   exact hs' ρ4 H4 _ u tv y t _ _ hS4 ((r2.mono E3).mono E4) r4 q5 fun w' H5 E5 hS5 r5 => k w' ρ4 H5 ((((E1.trans E2).trans E3).trans E4).trans E5) hS5 r5
 · cases hf
   exact ⟨false,r3,k _ ρ2 H3 ((E1.trans E2).trans E3) hS3 rfl⟩
 · cases hf
theorem fb_leLt {a b c : Expr} {f g h : E} {pos : Pos} (ha : FE X a f) (hb : FE X b g) (hc : FE X c h) (hm : lastMarks [.LtE,.Lt] [b,c] = false := by with_unfolding_all rfl) : FB X (.Compare a [.LtE,.Lt] [b,c] pos) (bE (eChain opLe opLt f g h)) :=
 pt_mono (pt_chain op_le op_lt ha hb hc hm) fun _ _ _ h => tb_of (fun _ h => t_chain snd_IB snd_IB h) h
end
end F
namespace F
open PySem L2 PySem.Spec PyProof.Rows
mutual
def bnd (n : Nat) : D → Bool
 | .obj i => decide (i < n)
 | .tup ds => bndL n ds
 | .lst ds => bndL n ds
 | .clo _ ds => bndL n ds
 | _ => true
def bndL (n : Nat) : List D → Bool
 | [] => true
 | d :: ds => bnd n d && bndL n ds
end
def bndM (n : Nat) : MO → Bool
 | .lst ds => bndL n ds
 | .ins _ fs => bndL n (fs.map (·.2))
 | .dct kvs => bndL n (kvs.map (·.2))
 | .exc _ => true
 | .tab _ _ => true
def frz (g : G) : G := fun ds S => (g ds S).bind fun r => if (r.2.take S.length).all (bndM S.length) = true then (match r.1 with
 | .obj i => if i < S.length then some (.obj i,r.2.take S.length) else (match r.2[i]? with
   | some (.lst us) => if bndL S.length us = true then some (.lst us,r.2.take S.length) else none
   | _ => none)
 | d => if bnd S.length d = true then some (d,r.2.take S.length) else none) else none
section
variable {K : PySem.W.Frag} {mg : Str → Option Value} {ρ ρ' : List Addr} {H H' : Hp} {S S1 : Sto} {n : Nat}
theorem TupAt.cut {p : Addr} {vs : List V} (h : TupAt K ρ H p vs) : TupAt K (ρ.take n) H p vs := h.imp (fun ⟨a,b⟩ => ⟨fun z => a (List.mem_of_mem_take z),b⟩) id
theorem LstAt.cut {p : Addr} {vs : List V} (h : LstAt K ρ H p vs) : LstAt K (ρ.take n) H p vs := h.imp (fun ⟨a,b⟩ => ⟨fun z => a (List.mem_of_mem_take z),b⟩) id
theorem Cells.cut : ∀ {xs : List Str} {us : List V} {cl : List (Str × Addr)},Cells ρ H xs us cl → Cells (ρ.take n) H xs us cl
 | [],[],[],_ => trivial
 | x :: xs,u :: us,p :: cl,h => ⟨h.1,fun z => h.2.1 (List.mem_of_mem_take z),h.2.2.1,Cells.cut h.2.2.2⟩
 | [],[],_ :: _,h => h.elim
 | [],_ :: _,_,h => h.elim
 | _ :: _,[],_,h => h.elim
 | _ :: _,_ :: _,[],h => h.elim
mutual
theorem Rep.cut : ∀ {d : D} {v : V},bnd n d = true → Rep K mg ρ H d v → Rep K mg (ρ.take n) H d v
 | .non,_,_,h => h
 | .bl _,_,_,h => h
 | .int _,_,_,h => h
 | .str _,_,_,h => h
 | .fn _,_,_,h => h
 | .ty _,_,_,h => h
 | .tup ds,_,hb,h => by
   unfold Rep at h ⊢
   unfold bnd at hb
   obtain ⟨p,vs,e1,t,r⟩ := h
   exact ⟨p,vs,e1,t.cut,RepL.cut hb r⟩
 | .lst ds,_,hb,h => by
   unfold Rep at h ⊢
   unfold bnd at hb
   obtain ⟨p,vs,e1,t,r⟩ := h
   exact ⟨p,vs,e1,t.cut,RepL.cut hb r⟩
 | .obj i,_,hb,h => by
   unfold Rep at h ⊢
   unfold bnd at hb
   obtain ⟨a,e1,e2⟩ := h
   exact ⟨a,e1,by rw [List.getElem?_take_of_lt (of_decide_eq_true hb)]; exact e2⟩
 | .lam t,_,_,h => by
   unfold Rep at h ⊢
   obtain ⟨a,e1,n1,c,pm,ct,n2,h1,h2⟩ := h
   exact ⟨a,e1,fun z => n1 (List.mem_of_mem_take z),c,pm,ct,fun z => n2 (List.mem_of_mem_take z),h1,h2⟩
 | .clo t vs,_,hb,h => by
   unfold Rep at h ⊢
   unfold bnd at hb
   obtain ⟨a,us,e1,⟨n1,c,pm,ct,cl,n2,h1,h2,h3,h4⟩,r⟩ := h
   exact ⟨a,us,e1,⟨fun z => n1 (List.mem_of_mem_take z),c,pm,ct,cl,fun z => n2 (List.mem_of_mem_take z),h1,h2,h3,h4.cut⟩,RepL.cut hb r⟩
theorem RepL.cut : ∀ {ds : List D} {vs : List V},bndL n ds = true → RepL K mg ρ H ds vs → RepL K mg (ρ.take n) H ds vs
 | [],_,_,h => h
 | d :: ds,_,hb,h => by
   unfold RepL at h ⊢
   unfold bndL at hb
   obtain ⟨v,r,e,h1,h2⟩ := h
   obtain ⟨b1,b2⟩ := Bool.and_eq_true_iff.mp hb
   exact ⟨v,r,e,Rep.cut b1 h1,RepL.cut b2 h2⟩
end
theorem MOk.cut {a : Addr} {m : MO} (hb : bndM n m = true) (h : MOk K mg ρ H a m) : MOk K mg (ρ.take n) H a m := by
 cases m with
 | lst ds => obtain ⟨vs,h1,h2⟩ := h; exact ⟨vs,h1,h2.cut hb⟩
 | ins c fs => obtain ⟨C,dx,vs,h0,h1,h2,h3⟩ := h; exact ⟨C,dx,vs,h0,h1,h2,h3.cut hb⟩
 | dct kvs => obtain ⟨vs,h1,h2,h3⟩ := h; exact ⟨vs,h1,h2,h3.cut hb⟩
 | exc c => exact h
 | tab x q => obtain ⟨h0,ps,h1,h2,h3⟩ := h; exact ⟨h0,ps,h1,h2,fun pos cv z => let ⟨c,z1,z2,z3⟩ := h3 pos cv z; ⟨c,z1,fun y => z2 (List.mem_of_mem_take y),z3⟩⟩
theorem StOk.cut (hS : StOk K mg ρ H S) (hb : (S.take n).all (bndM n) = true) : StOk K mg (ρ.take n) H (S.take n) := by
 refine ⟨by rw [List.length_take,List.length_take,hS.len],hS.nd.sublist (List.take_sublist _ _),fun i m a e1 e2 => ?_⟩
 have hi : i < n := by
   have := (List.getElem?_eq_some_iff.mp e1).1
   rw [List.length_take] at this
   omega
 have hm : m ∈ S.take n := List.mem_of_getElem? e1
 rw [List.getElem?_take_of_lt hi] at e1 e2
 exact (hS.ob i m a e1 e2).cut (List.all_eq_true.mp hb m hm)
theorem Ext.cut (e : Ext ρ H ρ' H') (hn : ρ.length = n) : Ext ρ H (ρ'.take n) H' :=
 ⟨fun i a h => by rw [List.getElem?_take_of_lt (by rw [← hn]; exact (List.getElem?_eq_some_iff.mp h).1)]; exact e.pre i a h,e.keep,fun b hb => e.new b (List.mem_of_mem_take hb)⟩
theorem frz_sp {g : G} (vs : List V) (H : Hp) (Q : VK) (E : XK) (h : spG K mg (frz g) vs H Q E) : spG K mg g vs H Q E := by
 obtain ⟨ρ,ds,S,d,S',hr,hS,hf,k⟩ := h
 obtain ⟨⟨d1,S1⟩,q1,hf⟩ := bindS hf
 refine ⟨ρ,ds,S,d1,S1,hr,hS,q1,fun v ρ' H' E1 hS1 r1 => ?_⟩
 dsimp only at hf
 split at hf
 · rename_i hb
   have e0 := E1.cut hS.len
   have s0 := hS1.cut hb
   split at hf
   · rename_i i
     split at hf
     · rename_i hi
       cases hf
       exact k v _ H' e0 s0 (r1.cut (by unfold bnd; exact decide_eq_true hi))
     · rename_i hi
       split at hf
       · rename_i us eu
         split at hf
         · rename_i hu
           cases hf
           unfold Rep at r1
           obtain ⟨a,rfl,ea⟩ := r1
           obtain ⟨ws,m1,m2⟩ := hS1.ob i _ a eu ea
           refine k _ _ H' e0 s0 ?_
           unfold Rep
           refine ⟨a,ws,rfl,.inl ⟨fun z => ?_,.inl m1⟩,m2.cut hu⟩
           obtain ⟨j,hj,ej⟩ := List.getElem_of_mem z
           rw [List.length_take] at hj
           rw [List.getElem_take] at ej
           have hj2 : j < ρ'.length := by omega
           have e3 : ρ'[j]? = ρ'[i]? := by rw [ea,List.getElem?_eq_getElem hj2,ej]
           have := (List.getElem?_inj hj2 hS1.nd).mp e3
           omega
         · cases hf
       · cases hf
   · split at hf
     · rename_i hd
       cases hf
       exact k v _ H' e0 s0 (r1.cut hd)
     · cases hf
 · cases hf
end
theorem Cal.frz {P : Program} {w : World} {K : PySem.W.Frag} {mg : Str → Option Value} {base : Heap} {k : Nat} {x : Str} {g : G} (c : Cal P w K mg base k x g) : Cal P w K mg base k x (frz g) := by
 obtain ⟨f,fd,ps,ds,dvs,dds,gg,FF,hm,hk,hb,hd,hdd,hg⟩ := c.ex
 refine ⟨f,fd,ps,ds,dvs,dds,_root_.F.frz gg,FnOk.imp FF frz_sp,hm,hk,hb,hd,hdd,fun args S r e => ?_⟩
 obtain ⟨r0,q,e⟩ := bindS e
 show (gg (args ++ dds) S).bind _ = _
 rw [hg args S r0 q]
 exact e
end F
namespace F
open PySem L2 PySem.Spec PyProof.Rows
def loopFT (is : List Nat) (body : C) : List D → Ev → Sto → Option (Out × Sto)
 | [],ev,S => some (.nx ev,S)
 | d :: ds,ev,S => match d with
   | .tup us => (setAll ev is us).bind fun e1 => (body e1 S).bind fun p => (match p.1 with
     | .nx e => loopFT is body ds e p.2
     | .ct e => loopFT is body ds e p.2
     | .bk e => some (.nx e,p.2)
     | .rt x => some (.rt x,p.2))
   | _ => none
def sForLT (is : List Nat) (f : E) (body : C) : C := fun ev S => (f ev S).bind fun p => match p.1 with
 | .lst ds => loopFT is body ds ev p.2
 | _ => none
def opAddL (S : Sto) : D → D → Option D
 | .obj a,.lst bs => (match S[a]? with
   | some (.lst as) => if as.length + bs.length ≤ sizeLine then some (.lst (as ++ bs)) else none
   | _ => none)
 | x,y => opAdd x y
section
variable {K : PySem.W.Frag} {mg : Str → Option Value} {ρ1 : List Addr} {H1 : Hp} {is : List Nat} {body : C} {X : Cx}
def AheadT (K : PySem.W.Frag) (mg : Str → Option Value) (ρ1 : List Addr) (H1 : Hp) (is : List Nat) (body : C) (o : Out) (S' : Sto) (ds : List D) (σ : L2.St) (H : Hp) : Prop :=
 ∃ ρ ev S,Ext ρ1 H1 ρ H ∧ StOk K mg ρ H S ∧ EnvR K mg ρ H ev σ ∧ loopFT is body ds ev S = some (o,S')
theorem fs_forLT {f : E} (is : List Nat) {es : List Expr} {t : TGs} {kk : Nat} {pt pos : Pos} {l : Expr} {sb : List Stmt} (hn : Names X es is t) (hl : FE X l f) (hb : FSs X sb body) (hp : PassesOwn (model X.prog X.w) X.A X.env X.xe) (hc : X.calm = true := by rfl) (hln : (assignEach es X.env).length = is.length := by rfl) (hst : (assignEach es X.env).findIdx? (·.1) = none := by rfl)
   (hs : ∀ v,foldedSetIterable l X.env v = pure v := by intro _; rfl) :
   FS X (.For (.Tuple es kk pt) l sb [] pos) (sForLT is f body) :=
 ps_mono (ps_for hp hc (pi_list hl) (pg_tup hc hn.pgs hln hst) hb hs) fun σ H D h => by
   obtain ⟨ρ,ev,S,o,S',hE,hS,hf,k⟩ := h
   obtain ⟨⟨d,S1⟩,q1,hf⟩ := bindS hf
   cases d with
   | lst ds =>
     refine ⟨ρ,ev,S,_,S1,hE,hS,q1,fun v ρ1 H1 E1 hS1 r1 => ?_⟩
     unfold Rep at r1
     obtain ⟨p,vs,rfl,t1,r⟩ := r1
     have k1 := k.ext E1
     refine ⟨p,rfl,⟨vs,t1.sq⟩,for_list (K := X.K) (a := p) (xs := vs) (fun j σ' H' => AheadT X.K X.mg ρ1 H1 is body o S' (ds.drop j) σ' H') ⟨ρ1,ev,S1,Ext.refl _ _,hS1,hE.mono E1,hf⟩ (fun j σ' H' _ ⟨ρ',ev',S2,e0,_⟩ => (t1.mono e0).sq) ?_ ?_⟩
     · rintro j y σ' H' hj ⟨ρ',ev',S2,e0,hS2,hE2,hl2⟩
       have hjl : j < ds.length := by rw [r.length]; exact (List.getElem?_eq_some_iff.mp hj).1
       have ed : ds.drop j = ds[j] :: ds.drop (j + 1) := List.drop_eq_getElem_cons hjl
       obtain ⟨y',ey,ry⟩ := (r.mono e0).get (List.getElem?_eq_getElem hjl)
       rw [hj] at ey
       cases ey
       rw [ed] at hl2
       generalize ds[j] = dj at hl2 ry
       unfold loopFT at hl2
       cases dj with
       | tup us =>
         dsimp only at hl2
         obtain ⟨e1,q2,hl2⟩ := bindS hl2
         obtain ⟨⟨o1,S3⟩,q3,hl2⟩ := bindS hl2
         unfold Rep at ry
         obtain ⟨pp,ws,rfl,tt,rr⟩ := ry
         refine ⟨pp,ws,rfl,tt.sq,by rw [← rr.length]; exact setAll_len q2,names_of hn rr hE2 q2 fun σ2 hE3 => ⟨ρ',e1,S2,o1,S3,hE3,hS2,q3,?_⟩⟩
         cases o1 with
         | nx e => exact fun σ3 ρ3 H3 E3 hS3 hE4 => ⟨ρ3,e,S3,e0.trans E3,hS3,hE4,hl2⟩
         | ct e => exact fun σ3 ρ3 H3 E3 hS3 hE4 => ⟨ρ3,e,S3,e0.trans E3,hS3,hE4,hl2⟩
         | bk e => cases hl2; exact fun σ3 ρ3 H3 E3 hS3 hE4 => k1 σ3 ρ3 H3 (e0.trans E3) hS3 hE4
         | rt y => cases hl2; exact fun v3 ρ3 H3 E3 hS3 r3 => k1 v3 ρ3 H3 (e0.trans E3) hS3 r3
       | _ => cases hl2
     · rintro σ' H' ⟨ρ',ev',S2,e0,hS2,hE2,hl2⟩
       rw [List.drop_eq_nil_of_le (by rw [r.length]; exact Nat.le_refl _)] at hl2
       cases hl2
       exact k1 σ' ρ' H' e0 hS2 hE2
   | _ => cases hf
theorem snd_addL : Snd2 K mg (fun x y H Q => rI0 (fun i j => .int (i + j)) x y H Q ∨ (∃ i j,x = .str i ∧ y = .str j ∧ i.length + j.length ≤ sizeLine ∧ Q (.str (i ++ j)) H) ∨ rCatL K x y H Q ∨ rCatT K x y H Q ∨ rCatT0 K x y H Q) opAddL := by
 intro ρ H S x y dx dy d Q hS rx ry e k
 unfold opAddL at e
 split at e
 · split at e
   · rename_i a bs _ as ea
     split at e
     · rename_i hl
       cases e
       unfold Rep at rx
       obtain ⟨p,rfl,hp⟩ := rx
       obtain ⟨vs,m1,m2⟩ := hS.ob a _ p ea hp
       obtain ⟨q,us,rfl,t2,r2⟩ := ry.refL
       refine .inr (.inr (.inl ⟨p,q,vs,us,rfl,rfl,SqL.of m1,t2.sq,by rw [← m2.length,← r2.length]; exact hl,fun z hz => ?_⟩))
       exact k _ _ (ext_new hS _ hz) (hS.new _ hz) (Rep.lst (s := hS) hz (m2.append r2))
     · cases e
   · cases e
 · exact snd_add ρ H S x y dx dy d Q hS rx ry e k
theorem fe_addL {a b : Expr} {f g : E} {pos : Pos} (ha : FE X a f) (hb : FE X b g) : FE X (.BinOp a .Add b pos) (e2s opAddL f g) :=
 fe_bin (op_add.or (op_add_str.or (op_catL.or (op_catT.or op_catT0)))) snd_addL ha hb
end
end F
namespace F
open PySem L2 PySem.Spec PyProof.Rows
def compF (c : B) (g : E) (fr : Ev) : List D → Sto → Option (List D × Sto)
 | [],S => some ([],S)
 | d :: ds,S => (c (some d :: fr) S).bind fun p => if p.1 = true then (g (some d :: fr) p.2).bind fun q => (compF c g fr ds q.2).bind fun r => some (q.1 :: r.1,r.2) else compF c g fr ds p.2
def eCompL (fr : List Nat) (f : E) (c : B) (g : E) : E := fun ev S => (f ev S).bind fun p => match p.1 with
 | .lst us => (compF c g (fr.map (evAt ev)) us p.2).map fun q => (.lst q.1,q.2)
 | _ => none
def bYes : B := fun _ S => some (true,S)
inductive FT (X : Cx) : List Expr → B → Prop
 | nil : FT X [] bYes
 | one {e : Expr} {u : B} : FB X e u → FT X [e] u
section
variable {X : Cx} {pins : List (Addr × Obj)} {σ : L2.St} {H : Hp} {s : Shared} {scope : Scope} {x : Str} {N' : List Str} {fr : List Nat}
theorem ft_run {ifs : List Expr} {c : B} (h : FT X ifs c) {Q : Bool → Hp → Prop} (I : Inv X pins σ H s) (t : tB X.K X.mg c σ H Q) :
   wpAny (model X.prog X.w) X.A (forIn ifs true fun c r => if r = true then do let ok ← isTrue c X.env (eval c X.env); pure (ForInStep.yield ok) else pure (ForInStep.yield r)) (TP X pins σ Q) X.xe s := by
 cases h with
 | nil =>
   obtain ⟨ρ,ev,S,b,S',hE,hS,hf,k⟩ := t
   cases hf
   exact wpAny_tests_nil ⟨H,I,k ρ H (Ext.refl _ _) hS⟩
 | one h => exact wpAny_tests_one (h pins s σ H Q I t)
def CompIL (X X' : Cx) (cn : B) (g : E) (fre : Ev) (t : L2.St) (fp : List Addr) (tn : Nat → Heap → Prop) (Dl : Addr) (us : List D) (ρ1 : List Addr) (H2 : Hp) (ds : List D) (Sf : Sto) (m : Nat) (st : Shared) : Prop :=
 ∃ (i : Nat) (ρ' : List Addr) (H' : Hp) (ys : List V) (its : List Value) (acc rest : List D) (Si : Sto) (w : Option V),m = us.length - i ∧ i ≤ us.length ∧ Inv X' [] (w :: t) H' st ∧ tn i st.heap ∧ (∀ b ∈ fp,H' b = none) ∧ H' Dl = none ∧ st.heap.PlainList Dl (List.toArray its) ∧ Vals ys its ∧
   Ext ρ1 H2 ρ' H' ∧ StOk X.K X.mg ρ' H' Si ∧ RepL X.K X.mg ρ' H' acc ys ∧ acc.length ≤ i ∧ compF cn g fre (us.drop i) Si = some (rest,Sf) ∧ ds = acc ++ rest
theorem fe_compL {elt l : Expr} {ifs : List Expr} {px pos : Pos} {f g : E} {cn : B} (c : CompOk X scope x N' fr) (hl : FE X l f) (hif : ∀ s₀ H₀ C ex,FT (compCx X (x :: N') scope s₀ H₀ C ex) ifs cn) (helt : ∀ s₀ H₀ C ex,FE (compCx X (x :: N') scope s₀ H₀ C ex) elt g)
   (hc : X.calm = true := by rfl) (hs : ∀ v,foldedSetIterable l X.env v = pure v := by intro _; rfl) :
   FE X (.ListComp elt [⟨.Name x px,l,ifs,0⟩] scope pos) (eCompL fr f cn g) := by
 intro pins s σ H Q I h
 obtain ⟨ρ,ev,S,d,S',hE,hS,hf,k⟩ := h
 obtain ⟨⟨y,S1⟩,q1,hf⟩ := bindS hf
 cases y with
 | lst us =>
   · obtain ⟨⟨ds,S2⟩,q2,hf⟩ := mapS hf
     cases hf
     rw [eval_ListComp]
     refine wpAny_comprehension_free (use := none) rfl hs (closureFor_of fun p hp e => I.ok.has p.1 (.inl ((c.chk p hp).2.1 e))) c.kind (fun y hy e => (c.chk y hy).2.2 e) ?_
     refine thn (pi_list (tg := .Name x px) hl pins s σ H (fun J H1 => ∃ ρ1 p vs,J = Itl X.K p ∧ Ext ρ H ρ1 H1 ∧ StOk X.K X.mg ρ1 H1 S1 ∧ LstAt X.K ρ1 H1 p vs ∧ RepL X.K X.mg ρ1 H1 us vs) I ⟨ρ,ev,S,.lst us,S1,hE,hS,q1,fun v ρ1 H1 E1 hS1 r1 => ?_⟩) fun v s1 h1 => thn h1 fun itv s2 h2 => ?_
     · obtain ⟨p,vs,rfl,t1,rL⟩ := r1.refL
       exact ⟨p,rfl,⟨vs,t1.sq⟩,ρ1,p,vs,rfl,E1,hS1,t1,rL⟩
     obtain ⟨it,fp,tn,J,H2,e,I2,T,st2,f2,ρ1,p,vs,eJ,E1,hS1,t1,rL⟩ := h2
     subst e eJ
     have hlen := rL.length
     obtain ⟨_,_,_,hz0⟩ := I2.list t1.sq
     have hE1 := hE.mono E1
     have hcell : ∀ y ∈ scope.names,y.2 ≠ .cell := fun y hy => (c.chk y hy).1
     refine wpAny_newObj_type (wpAny_newFunctionEnv hcell (by intro y hy; simp at hy) (fun h₁ hns₁ hsb₁ => ?_) c.kind)
     dsimp only at hns₁ hsb₁ ⊢
     generalize hH2 : s2.heap.push { cls := .type "list",dict := none,data := .seq ([] : List Value).toArray } = G2 at hns₁ hsb₁ ⊢
     have hC : G2.objs.size = s2.heap.objs.size + 1 := by rw [← hH2,Heap.size_push]
     have hDC : s2.heap.objs.size ≠ G2.objs.size := by rw [hC]; exact Nat.ne_of_lt (Nat.lt_succ_self _)
     have hCle : s2.heap.objs.size ≤ G2.objs.size := by rw [hC]; exact Nat.le_succ _
     have old : ∀ b o,s2.heap.get? b = some o → h₁.get? b = some o := fun b o e => hsb₁.extBut b o (by rw [hC]; exact Nat.ne_of_lt (Nat.lt_succ_of_lt (Heap.lt_size e))) (Heap.get?_push_of_some _ (hH2 ▸ Heap.get?_push_of_some _ e))
     have hacc : h₁.PlainList s2.heap.objs.size #[] := ⟨_,hsb₁.extBut _ _ hDC (Heap.get?_push_of_some _ (hH2 ▸ Heap.get?_push_size _ rfl))⟩
     generalize hDl : s2.heap.objs.size = Dl at hDC hCle hacc
     generalize hCC : G2.objs.size = C at hDC hCle hns₁ hsb₁ hC ⊢
     have hfl : ∀ b ∈ fp,b < Dl := fun b hb => by
       obtain ⟨o,e,_⟩ := T.obj 0 _ st2 b hb
       rw [← hDl]; exact Heap.lt_size e
     have hHD : H2 Dl = none := I2.hok.fresh (by rw [hDl]; exact Nat.le_refl _)
     have hDfs : Dl ∉ frs X.stack := fun z => by
       have z' := I2.stkFree Dl z
       rcases List.mem_cons.mp (I2.stkSub Dl z) with e | e
       · have := I2.lt
         rw [hDl,← e] at this
         exact Nat.lt_irrefl _ this
       · exact I2.nofs (by rw [hDl]; exact Nat.le_refl _) e
     generalize hX' : compCx X (x :: N') scope s2 H2 C fp = X'
     have I3 : Inv X' [] (none :: fr.map (svAt σ)) H2 { s2 with heap := h₁,toks := s2.toks + ([] : List (Str × Value)).length } := hX' ▸ c.start I2 f2 (by rw [hDl]; exact hfl) (by rw [hDl]; exact hCle) old hns₁
     have hEf : EnvR X.K X.mg ρ1 H2 (none :: fr.map (evAt ev)) (none :: fr.map (svAt σ)) := by
       refine ⟨by simp,fun i d q => ?_⟩
       cases i with
       | zero => simp at q
       | succ i =>
         have q : (fr.map (evAt ev))[i]? = some (some d) := by simpa using q
         rw [List.getElem?_map] at q
         cases ej : fr[i]? with
         | none => rw [ej] at q; cases q
         | some jj =>
           rw [ej] at q
           have q : evAt ev jj = some d := by simpa using q
           have hv : ev[jj]? = some (some d) := by
             unfold evAt at q
             split at q
             · rename_i o ho
               rw [ho,q]
             · cases q
           obtain ⟨v,e1,r⟩ := hE1.at_ jj d hv
           refine ⟨v,?_,r⟩
           show (fr.map (svAt σ))[i]? = some (some v)
           rw [List.getElem?_map,ej]
           show some (svAt σ jj) = _
           unfold svAt
           rw [e1]
     have eA : X'.A = X.A := by rw [← hX']; rfl
     have eP : X'.prog = X.prog := by rw [← hX']; rfl
     have eW : X'.w = X.w := by rw [← hX']; rfl
     have eK : X'.K = X.K := by rw [← hX']; rfl
     have eM : X'.mg = X.mg := by rw [← hX']; rfl
     have eEx : X'.ex = fp := by rw [← hX']; rfl
     have eS0 : X'.s₀ = s2 := by rw [← hX']; rfl
     have eH0 : X'.H₀ = H2 := by rw [← hX']; rfl
     have eFs : X'.fs = frs X.stack := by rw [← hX']; rfl
     have eL : X'.env.locals = C := by rw [← hX']; rfl
     have ePn : X'.pn = [] := by rw [← hX']; rfl
     have eEnv : X'.env = compEnvC scope (clOf X.env.cells scope.names []) C X.env := by rw [← hX']; rfl
     have eCalm : X'.calm = true := by rw [← hX']; exact hc
     have eXe : X'.xe = fun _ _ => False := by rw [← hX']; rfl
     have pgx : PG X' (.Name x px) (gName 0) := by
       rw [← hX']
       exact pg_name c.nd rfl (.inl (lookup_relabel_local c.hx)) (.inr (lookup_relabel_local c.hx))
     have fel : FE X' elt g := hX' ▸ helt s2 H2 C fp
     have ftl : FT X' ifs cn := hX' ▸ hif s2 H2 C fp
     have cellLt : ∀ y a,X'.env.cells.lookup y = some a → a < Dl := fun y a e => by
       rw [eEnv] at e
       obtain ⟨v,q⟩ := I2.cell y a (clOf_sub (fun _ _ h => by cases h) y a e)
       rw [← hDl]; exact q.lt
     have stat : ∀ {H' : Hp} {pl : List (Addr × Obj)},(∀ b ∈ fp,H' b = none) → (∀ p ∈ pl,∀ b ∈ fp,p.1 ≠ b) → ∀ b ∈ fp,FpOk X' pl H' b := fun {H' pl} hn hp b hb =>
       ⟨hn b hb,by rw [eL]; exact Nat.ne_of_lt (Nat.lt_of_lt_of_le (hfl b hb) hCle),by rw [eFs]; intro z; rcases List.mem_cons.mp (I2.stkSub b z) with e | e; exact (f2 b hb).2.1 e; exact (f2 b hb).2.2.1 e,.inl (by rw [eEx]; exact hb),fun y a e => by
         rw [eEnv] at e
         exact (f2 b hb).2.2.2.2.1 y a (clOf_sub (fun _ _ h => by cases h) y a e),fun p hpp => hp p (by rw [ePn] at hpp; simpa using hpp) b hb⟩
     have loop : ∀ s₃ : Shared,s₃ = { s2 with heap := h₁,toks := s2.toks + ([] : List (Str × Value)).length } →
         codeAny (model X.prog X.w) X.A (.compLoop (.ListComp elt [⟨.Name x px,l,ifs,0⟩] scope pos) 0 (.ref it) (.ref Dl) (compEnvC scope (clOf X.env.cells scope.names []) C X.env))
           (compPost (model X.prog X.w) X.A X.xe none (EP X pins σ Q) (.ref Dl) C) s₃ := by
       rintro s₃ rfl
       refine codeAny_compLoop_tests (CompIL X X' cn g (fr.map (evAt ev)) (fr.map (svAt σ)) fp tn Dl us ρ1 H2 ds S2) ?_ (us.length - 0)
         ⟨0,ρ1,H2,[],[],[],ds,S1,none,rfl,Nat.zero_le _,I3,T.keep _ _ _ st2 (fun b hb o e => old b o e),fun b hb => (f2 b hb).1,hHD,hacc,.nil,Ext.refl _ _,hS1,RepL.nil,Nat.le_refl _,q2,rfl⟩
       intro m st hI
       generalize notedBy (model X.prog X.w) X.A (compEnvC scope (clOf X.env.cells scope.names []) C X.env) (fun e s' => compPost (model X.prog X.w) X.A X.xe none (EP X pins σ Q) (.ref Dl) C (.error e) s') = EE
       obtain ⟨i,ρ',H',ys,its,acc,rest,Si,w,rfl,hi,I',tni,hfp',hD',⟨nn,hpl⟩,rv,E',hSi,ra,hal,hcl,hds⟩ := hI
       have Ip : Inv X' [(Dl,{ cls := .type "list",data := .seq (List.toArray its) nn })] (w :: fr.map (svAt σ)) H' st := I'.pins_of fun p hp => by
         rw [List.mem_singleton.mp hp]
         exact ⟨hpl,hD',by rw [eL]; exact hDC,by rw [eFs]; exact hDfs,fun v z => by cases z⟩
       have hnp : ∀ p ∈ [(Dl,({ cls := .type "list",data := .seq (List.toArray its) nn } : Obj))],∀ b ∈ fp,p.1 ≠ b := fun p hp b hb => by
         rw [List.mem_singleton.mp hp]
         exact Ne.symm (Nat.ne_of_lt (hfl b hb))
       by_cases hlt : i < us.length
       · rw [List.drop_eq_getElem_cons hlt] at hcl
         obtain ⟨⟨ok,Sc⟩,qc,hcl⟩ := bindS hcl
         obtain ⟨xv0,ex0,rx0⟩ := (rL.mono E').get (List.getElem?_eq_getElem hlt)
         have ti := T.item X' eP eW eK eCalm i [(Dl,{ cls := .type "list",data := .seq (List.toArray its) nn })] st (w :: fr.map (svAt σ)) H' EE Ip (stat hfp' hnp) tni ⟨vs,xv0,(t1.mono E').sq,ex0⟩
         rw [eA] at ti
         refine thn ti fun r s4 ⟨u,hr,h4⟩ => ?_
         subst hr
         dsimp only
         show wpAny (model X.prog X.w) X.A (letOwnedTupleGo (.Name x px) (.ref it) u >>= fun _ => assign (.Name x px) (compEnvC scope (clOf X.env.cells scope.names []) C X.env) u) _ _ _
         refine wpAny_bind (thn h4 fun _ s5 ⟨xv,H5,I5,r5,y5,tn5,fp5⟩ => ?_)
         obtain ⟨eH5,exv⟩ := y5
         subst eH5
         have exv := exv vs ((t1.mono E').sq)
         rw [ex0] at exv
         cases exv
         have I5' := I5.pinned (stat fp5 hnp) (T.obj _ _ tn5)
         have as5 := pgx _ s5 _ H5 _ u (fun σ' H' => H' = H5 ∧ σ' = (w :: fr.map (svAt σ)).set 0 (some xv0)) I5' r5 ⟨rfl,rfl⟩
         rw [eP,eW,eA,eEnv,eXe] at as5
         refine wpAny_mono as5 (fun _ s6 ⟨σ6,H6,I6,eH6,eσ6⟩ => ?_) (fun _ _ z => False.elim z)
         subst eH6 eσ6
         have hE6 : EnvR X.K X.mg ρ' H6 (some us[i] :: fr.map (evAt ev)) (some xv0 :: fr.map (svAt σ)) := (hEf.mono E').set (i := 0) rx0
         have tc6 := ft_run ftl (Q := fun b H7 => b = ok ∧ ∃ ρ7,Ext ρ' H6 ρ7 H7 ∧ StOk X.K X.mg ρ7 H7 Sc) I6 ⟨ρ',_,Si,ok,Sc,by rw [eK,eM]; exact hE6,by rw [eK,eM]; exact hSi,qc,fun ρ7 H7 E7 hS7 => ⟨rfl,ρ7,E7,by rw [eK,eM] at hS7; exact hS7⟩⟩
         rw [eP,eW,eA,eEnv,eXe] at tc6
         refine wpAny_mono tc6 (fun ok' s6 ⟨H6,I6,eok,ρ6,E6,hS6⟩ => ?_) (fun _ _ z => False.elim z)
         subst eok
         have hE6 := hE6.mono E6
         have hpin6 := I6.pin (Dl,{ cls := .type "list",data := .seq (List.toArray its) nn }) (List.mem_append_right _ (List.mem_append_left _ (List.mem_singleton.mpr rfl)))
         cases ok' with
         | false =>
           have hcl : compF cn g (fr.map (evAt ev)) (us.drop (i + 1)) Sc = some (rest,S2) := hcl
           rw [if_neg Bool.false_ne_true]
           have I8 : Inv X' [] (some xv0 :: fr.map (svAt σ)) H6 s6 := I6.pins_of fun p hp => by cases hp
           have tn8 : tn (i + 1) s6.heap := T.keep _ _ _ tn5 fun b hb o e => (I6.pin (b,o) (List.mem_append_right _ (List.mem_append_right _ (mem_pinsAt hb e)))).1
           refine ⟨us.length - (i + 1),by omega,i + 1,ρ6,H6,ys,its,acc,rest,Sc,_,rfl,by omega,I8,tn8,fun b hb => ?_,hpin6.2.1,⟨nn,hpin6.1⟩,rv,E'.trans E6,hS6,ra.mono E6,by omega,hcl,hds⟩
           obtain ⟨o,e,dd⟩ := T.obj _ _ tn5 b hb
           exact (I6.pin (b,o) (List.mem_append_right _ (List.mem_append_right _ (mem_pinsAt hb e)))).2.1
         | true =>
           rw [if_pos rfl]
           have hcl : (g (some us[i] :: fr.map (evAt ev)) Sc).bind (fun q => (compF cn g (fr.map (evAt ev)) (us.drop (i + 1)) q.2).bind fun r => some (q.1 :: r.1,r.2)) = some (rest,S2) := hcl
           obtain ⟨⟨yv,Sn⟩,qe,hcl⟩ := bindS hcl
           obtain ⟨⟨rest',Se⟩,qr,hcl⟩ := bindS hcl
           cases hcl
           have el6 := fel _ s6 _ H6 (fun v H7 => ∃ ρ7,Ext ρ6 H6 ρ7 H7 ∧ StOk X.K X.mg ρ7 H7 Sn ∧ Rep X.K X.mg ρ7 H7 yv v) I6 ⟨ρ6,_,Sc,yv,Sn,by rw [eK,eM]; exact hE6,by rw [eK,eM]; exact hS6,qe,fun v ρ7 H7 E7 hS7 r7 => ⟨ρ7,E7,by rw [eK,eM] at hS7; exact hS7,by rw [eK,eM] at r7; exact r7⟩⟩
           rw [eP,eW,eA,eEnv,eXe] at el6
           refine wpAny_mono el6 (fun u7 s7 ⟨v7,H7,I7,r7,ρ7,E7,hS7,rp7⟩ => ?_) (fun _ _ z => False.elim z)
           have hpin := I7.pin (Dl,{ cls := .type "list",data := .seq (List.toArray its) nn }) (List.mem_append_right _ (List.mem_append_left _ (List.mem_singleton.mpr rfl)))
           have hvl := rv.length
           have hral := ra.length
           refine wpAny_list_append_plain ⟨nn,hpin.1⟩ (fun h8 hp8 hsb8 => ?_) (by rw [List.size_toArray]; omega)
           have I8 : Inv X' [] (some xv0 :: fr.map (svAt σ)) H7 { s7 with heap := h8 } := by
             have I7' : Inv X' [] (some xv0 :: fr.map (svAt σ)) H7 s7 := I7.pins_of fun p hp => by cases hp
             exact I7'.turned (it := Dl) (t' := s7.toks) (fun b o hb e => (hsb8.2 b hb).trans e) hpin.2.1 (by rw [eL]; exact hDC) (.inr (by rw [eS0,hDl]; exact Nat.le_refl _)) (fun y a e => Nat.ne_of_lt (cellLt y a e)) (fun p hp => by rw [ePn] at hp; cases hp)
           have tn8 : tn (i + 1) h8 := T.keep _ _ _ tn5 fun b hb o e => by
             have := (I7.pin (b,o) (List.mem_append_right _ (List.mem_append_right _ (mem_pinsAt hb e)))).1
             exact (hsb8.2 b (Nat.ne_of_lt (hfl b hb))).trans this
           refine ⟨us.length - (i + 1),by omega,i + 1,ρ7,H7,ys ++ [v7],its ++ [u7],acc ++ [yv],rest',Sn,_,rfl,by omega,I8,tn8,fun b hb => ?_,hpin.2.1,?_,rv.append (.cons r7 .nil),(E'.trans E6).trans E7,hS7,((ra.mono E6).mono E7).append (RepL.cons rp7 RepL.nil),by simp; omega,qr,by simp [hds]⟩
           · obtain ⟨o,e,dd⟩ := T.obj _ _ tn5 b hb
             exact (I7.pin (b,o) (List.mem_append_right _ (List.mem_append_right _ (mem_pinsAt hb e)))).2.1
           · rw [show (its ++ [u7]).toArray = its.toArray.push u7 by simp]
             exact hp8
       · have ei : i = us.length := by omega
         have td := T.done X' eP eW eK eCalm i [(Dl,{ cls := .type "list",data := .seq (List.toArray its) nn })] st (w :: fr.map (svAt σ)) H' EE Ip (stat hfp' hnp) tni ⟨vs,(t1.mono E').sq,by omega⟩
         rw [eA] at td
         refine thn td fun r s4 ⟨hr,I4⟩ => ?_
         subst hr
         dsimp only
         rw [List.drop_eq_nil_of_le (by omega)] at hcl
         cases hcl
         rw [List.append_nil] at hds
         subst hds
         obtain ⟨mm,hns,_⟩ := id I4.loc
         rw [eL] at hns
         refine ⟨mm,hns,fun h' hs' => ?_⟩
         have hpin := I4.pin (Dl,{ cls := .type "list",data := .seq (List.toArray its) nn }) (List.mem_append_right _ (List.mem_singleton.mpr rfl))
         have hHC : H' C = none := by
           have := I4.free
           rw [eL] at this
           exact this
         have bs := I4.base
         rw [eFs,eEx,eH0,eS0] at bs
         have nC : ∀ b o,s2.heap.get? b = some o → b ≠ C := fun b o e z => by
           have := Heap.lt_size e
           rw [hDl,z] at this
           exact Nat.lt_irrefl _ (Nat.lt_of_lt_of_le this hCle)
         have un : Un (frs X.stack) fp H2 H' s2.heap h' :=
           ⟨fun b o e n h1 h2 => (hs'.2 b (nC b o e)).trans (bs.keep b o e n h1 h2),fun b o e n h1 h2 => by
             obtain ⟨sl,q⟩ := bs.slot b o e n h1 h2
             exact ⟨sl,(hs'.2 b (nC b o e)).trans q⟩,bs.free,fun b o e h2 => by
             obtain ⟨o',q⟩ := bs.there b o e h2
             exact ⟨o',(hs'.2 b (nC b o e)).trans q⟩,bs.tups,bs.frzs,bs.tbls⟩
         have hok4 := I4.hok
         rw [eP,eW] at hok4
         have os4 := I4.os
         rw [eS0] at os4
         have I9 : Inv X pins σ H' { s4 with heap := h' } := I2.call' (s' := { s4 with heap := h' }) os4 un (sameBut_hok hok4 hs' hHC) I4.bare fun b hb => by
           obtain ⟨_,a1,a2,a3,a4,a5⟩ := f2 b hb
           exact ⟨a3,a1,a4,a5⟩
         have hvl := rv.length
         have hral := ra.length
         have hDl2 : s2.heap.objs.size ≤ Dl := by rw [hDl]; exact Nat.le_refl _
         have I10 : Inv X pins σ (upd H' Dl (.lst ys)) { s4 with heap := h' } := Inv.track (its := its) (n := nn) I9 hD' ((hs'.2 Dl hDC).trans hpin.1) rv (by omega) (.inr (Nat.le_trans I2.sz hDl2)) (Ne.symm (Nat.ne_of_lt (Nat.lt_of_lt_of_le I2.lt hDl2)))
           (fun y a e => by
             obtain ⟨v,q⟩ := I2.cell y a e
             exact Nat.ne_of_lt (Nat.lt_of_lt_of_le q.lt hDl2)) (fun q hq z => by
             have := Heap.lt_size (I2.pin q hq).1
             rw [hDl,z] at this
             exact Nat.lt_irrefl _ this)
         refine ⟨.ref Dl,upd H' Dl (.lst ys),I10,rfl,?_⟩
         exact k _ ρ' _ (E1.trans (E'.trans (ext_new hSi _ hD'))) (hSi.new _ hD') (Rep.lst (s := hSi) hD' ra)
     exact codeAny_compStart_list (loop _ rfl) (T.self X.A 0 _ _ _ (T.keep _ _ _ st2 (fun b hb o e => old b o e)) (loop _ rfl))
 | _ => cases hf
end
end F
namespace F
open PySem L2 PySem.Spec PyProof.Rows
section
variable {K : PySem.W.Frag} {mg : Str → Option Value} {ρ : List Addr} {H : Hp} {S : Sto}
variable {X : Cx} {a b e o i : Expr} {f g h : E} {pos : Pos}
theorem RepL.dropLast {ds : List D} {vs : List V} (r : RepL K mg ρ H ds vs) : RepL K mg ρ H ds.dropLast vs.dropLast := by
 rw [List.dropLast_eq_take,List.dropLast_eq_take,← r.length]
 exact r.take _
end
end F
namespace F
open PySem L2 PySem.Spec PyProof.Rows
abbrev R := Ev → Sto → Option (Str × Sto)
abbrev GR := List D → Sto → Option (Str × Sto)
end F
namespace F
open PySem L2 PySem.Spec PySem.Calls PyProof.Rows PySem.W
structure Up where
 raised : List Str
 asked : List Str
end F
namespace F
open PySem L2 PySem.Spec PySem.Calls PyProof.Rows PySem.W
def strSl (x : Str) (lo hi : Option Int) : Str := if ((Builtin.Str.strSliceIndices lo hi 1 x.length).length == x.length) = true then x else ⟨((Builtin.Str.strSliceIndices lo hi 1 x.length).filterMap (x.cps[·]?)).toArray⟩
def opSlS : D → Option Int → Option Int → Option D
 | .str x,lo,hi => if (strSl x lo hi).length ≤ sizeLine then some (.str (strSl x lo hi)) else none
 | _,_,_ => none
def eSlS (f : E) (a b : Pt) : E := fun ev S => (f ev S).bind fun p => (a ev p.2).bind fun q => (b ev q.2).bind fun r => (opSlS p.1 q.1 r.1).map fun d => (d,r.2)
section
variable {X : Cx} {K : PySem.W.Frag} {mg : Str → Option Value} {e a b : Expr} {es : List Expr} {f g : E} {ga : As} {p pos : Pos}
def rSlS : V → Option Int → Option Int → Hp → VK → Prop := fun x lo hi H Q => ∃ z,x = .str z ∧ (strSl z lo hi).length ≤ sizeLine ∧ Q (.str (strSl z lo hi)) H
theorem sl_str : SlR X rSlS := by
 intro pins s σ H x v vl vu lo hi sl Q I rx hs pl pu h
 obtain ⟨z,rfl,hz,q⟩ := h
 obtain ⟨t,rfl⟩ := rx
 have hp : ∀ {v : Value} {o : Option Int},IsPart v o → ∃ l : Option (Int × Tok),v = partValue l ∧ l.map (·.1) = o := fun h => by
   cases h with
   | none => exact ⟨none,rfl,rfl⟩
   | int i t => exact ⟨some (i,t),rfl,rfl⟩
 obtain ⟨l,rfl,rfl⟩ := hp pl
 obtain ⟨u,rfl,rfl⟩ := hp pu
 refine ⟨"str",_,PySem.F.slot_str_getitem.lookup,typeIs_str s z t,?_⟩
 refine wpAny_getItem_str_slice (l := l) (u := u) (st := none) hs rfl ?_
 unfold sliceMade
 by_cases c : ((slicePicked z l u none).length == z.length) = true
 · rw [if_pos (by rw [c]; rfl)]
   have e : strSl z (l.map (·.1)) (u.map (·.1)) = z := if_pos c
   rw [e] at q
   exact ⟨.str z,H,I,⟨t,rfl⟩,q⟩
 · rw [if_neg (fun w => c (by simpa using w))]
   have e : strSl z (l.map (·.1)) (u.map (·.1)) = ⟨((slicePicked z l u none).filterMap (z.cps[·]?)).toArray⟩ := if_neg c
   rw [e] at q hz
   exact ⟨hz,.str _,H,I.tok _,⟨_,rfl⟩,q⟩
theorem fe_sliceS {lo hi : Option Expr} {u w : Pt} {p2 : Pos} (ha : FE X a f) (hl : FPt X lo u) (hh : FPt X hi w) : FE X (.Subscript a (.Slice lo hi none p2) pos) (eSlS f u w) :=
 pe_mono (pe_slice sl_str ha hl hh) fun σ H Q h => by
   obtain ⟨ρ,ev,S,d,S',hE,hS,hf,k⟩ := h
   obtain ⟨⟨x,S1⟩,q1,hf⟩ := bindS hf
   obtain ⟨⟨lo,S2⟩,q2,hf⟩ := bindS hf
   obtain ⟨⟨hi,S3⟩,q3,hf⟩ := bindS hf
   obtain ⟨z,q4,hf⟩ := mapS hf
   cases hf
   refine ⟨ρ,ev,S,x,S1,hE,hS,q1,fun v ρ1 H1 E1 hS1 r1 => ⟨ρ1,ev,S1,lo,S2,hE.mono E1,hS1,q2,fun ρ2 H2 E2 hS2 => ⟨ρ2,ev,S2,hi,_,(hE.mono E1).mono E2,hS2,q3,fun ρ3 H3 E3 hS3 => ?_⟩⟩⟩
   have r3 := (r1.mono E2).mono E3
   have E := (E1.trans E2).trans E3
   cases x with
   | str y =>
     replace q4 : (if (strSl y lo hi).length ≤ sizeLine then some (D.str (strSl y lo hi)) else none) = some d := q4
     split at q4
     · rename_i hn
       cases q4
       exact ⟨y,r3.refS,hn,k _ _ _ E hS3 rfl⟩
     · cases q4
   | _ => cases q4
end
end F
namespace F
open PySem L2 PySem.Spec PySem.Calls PyProof.Rows PySem.W
theorem codeP_st {c : Addr} {q : Str} (h1 h2 : Heap) (p : codeP c q h1) (k : ∀ o,h1.get? c = some o → h2.get? c = some o) : codeP c q h2 := by
 obtain ⟨c',o,vs,t,e,h,r⟩ := p
 cases e
 exact ⟨_,o,vs,t,rfl,k _ h,r⟩
theorem codeP_at {c : Addr} {q : Str} {h : Heap} (p : codeP c q h) : ∃ o,h.get? c = some o := by
 obtain ⟨c',o,vs,t,e,h,r⟩ := p
 cases e
 exact ⟨_,h⟩
theorem among_snoc {p : Pos} {a b : Int} {cv x : Value} (l : List Value) (h : TriplesOk l) : codeAmong p (l ++ [rawInt a,rawInt b,cv]) = some x → codeAmong p l = some x ∨ x = cv := by
 fun_induction TriplesOk l with
 | case1 =>
   intro e
   simp only [List.nil_append,rawInt,codeAmong] at e
   split at e
   · exact .inr (Option.some.inj e).symm
   · cases e
 | case2 i t j u c rest ih =>
   intro e
   simp only [List.cons_append,codeAmong] at e ⊢
   split at e
   · rename_i z; rw [if_pos z]; exact .inl e
   · rename_i z; rw [if_neg z]; exact ih h e
 | case3 => exact h.elim
section
variable {X : Cx} {pins : List (Addr × Obj)} {σ : L2.St} {H : Hp} {s : Shared}
theorem inv_tab {P c : Addr} {ps more : Array Value} {q : Str} {h' : Heap} {tk : Nat} (I : Inv X pins σ H s) (hP : H P = some (.tbl ps)) (hx : Heap.ExtBut P s.heap h') (ht : h'.get? P = some (tabObj (ps ++ more))) (hge : s.heap.objs.size ≤ c) (hc : codeP c q h') :
   Inv X pins σ (upd (upd H P (.tbl (ps ++ more))) c (.ext (codeP c q))) { s with heap := h',toks := tk } := by
 have hn : H c = none := I.hok.fresh hge
 have hPc : P ≠ c := Nat.ne_of_lt (Nat.lt_of_lt_of_le (I.hok.lt hP) hge)
 have neP : ∀ b,H b = none → b ≠ P := fun b n z => by rw [z,hP] at n; cases n
 have nec : ∀ b u,H b = some u → b ≠ c := fun b u e z => by rw [z,hn] at e; cases e
 have kp : ∀ b o,s.heap.get? b = some o → b ≠ P → h'.get? b = some o := fun b o e n => hx b o n e
 have keepH : ∀ b u,H b = some u → (∀ ps,u ≠ .tbl ps) → upd (upd H P (.tbl (ps ++ more))) c (.ext (codeP c q)) b = some u := fun b u e n => by
   rw [upd_ne (nec b u e),upd_ne (fun z => by rw [z,hP] at e; cases e; exact n ps rfl)]
   exact e
 refine I.un ⟨fun b o e n _ _ => kp b o e (neP b n),fun b o e n _ _ => ⟨o.slots,kp b o e (neP b n)⟩,fun b o e n _ => ?_,fun b o e _ => ?_,fun b xs e => keepH b _ e (fun _ z => by cases z),fun b o u e => keepH b _ e (fun _ z => by cases z),fun b qs e => ?_⟩ fun b u e => ?_
 · have hb : b < s.heap.objs.size := Heap.lt_size e
   rw [upd_ne (Nat.ne_of_lt (Nat.lt_of_lt_of_le hb hge)),upd_ne (neP b n)]
   exact n
 · by_cases z : b = P
   · exact ⟨_,z ▸ ht⟩
   · exact ⟨o,kp b o e z⟩
 · by_cases z : b = P
   · subst z
     rw [hP] at e; cases e
     exact ⟨more,by rw [upd_ne hPc,upd_same]⟩
   · exact ⟨#[],by rw [upd_ne (nec b _ e),upd_ne z,e]; simp⟩
 · by_cases zc : b = c
   · subst zc
     rw [upd_same] at e; cases e
     exact ⟨hc,codeP_at hc,fun h1 h2 p k => codeP_st h1 h2 p k⟩
   · rw [upd_ne zc] at e
     by_cases z : b = P
     · subst z
       rw [upd_same] at e; cases e
       exact ht
     · rw [upd_ne z] at e
       refine (I.hok b u e).stay (fun d o hd w => ?_) (fun d w => keepH d _ w fun _ y => by cases y) fun d xs w => keepH d _ w fun _ y => by cases y
       refine kp d o w fun y => ?_
       rcases hd with rfl | hd
       · exact z y
       · rw [y,hP] at hd; cases hd
theorem inv_lam {t : LT} {c : Addr} {pm ct : Value} {h' : Heap} {tk : Nat} (I : Inv X pins σ H s) (hk : ∀ b o,s.heap.get? b = some o → h'.get? b = some o) (hsz : s.heap.objs.size ≤ h'.objs.size) :
   Inv X pins σ (upd H h'.objs.size (.ext (lamP t h'.objs.size c pm ct))) { s with heap := h'.push (kla_obj "<lambda>" t.qual t.params t.body t.scope t.cl pm c ct),toks := tk } := by
 refine I.laid (t' := tk) (fun b o e => Heap.get?_push_of_some _ (hk b o e)) hsz ?_
 refine ⟨Heap.get?_push_size _ rfl,⟨_,Heap.get?_push_size _ rfl⟩,fun h1 h2 p k => k _ p⟩
end
def eLam (j : Nat) (x : Str) (t : LT) : E := fun _ S => match S[j]? with
 | some (.tab x' q) => if x' = x ∧ q = t.qual then some (.lam t,S) else none
 | _ => none
def CodeOf (K : Frag) (mg : Str → Option Value) (x : Str) (cdv : Value) : Prop := ∃ (f : Addr) (o : Obj) (fd : FuncData),mg x = some (.ref f) ∧ K.lookup f = some o ∧ o.data = .func fd ∧ fd.code = cdv
def BltB (base : Heap) (mg : Str → Option Value) : Prop := ∃ (bm : Addr) (o : Obj),mg "__builtins__" = some (.ref bm) ∧ bm ≠ builtinsNs ∧ bm ≠ mainGlobals ∧ base.get? bm = some o ∧ o.cls = .type "module" ∧ o.dict = some builtinsNs ∧ o.data = .plain
section
variable {X : Cx} {x : Str} {params : Arguments} {body : Expr} {scope : Scope} {pos : Pos}
theorem tab_grow {K mg ρ H} {S : Sto} (hS : StOk K mg ρ H S) {j : Nat} {P c : Addr} {x q : Str} {ps : Array Value} {a b : Int} (hj : S[j]? = some (.tab x q)) (hP : ρ[j]? = some P) (hps : H P = some (.tbl ps)) (hn : H c = none) :
   Ext ρ H ρ (upd (upd H P (.tbl (ps ++ #[rawInt a,rawInt b,.ref c]))) c (.ext (codeP c q))) ∧ StOk K mg ρ (upd (upd H P (.tbl (ps ++ #[rawInt a,rawInt b,.ref c]))) c (.ext (codeP c q))) S := by
 have cf : c ∉ ρ := hS.fresh hn
 have hPc : P ≠ c := fun z => cf (z ▸ List.mem_of_getElem? hP)
 have e0 : Ext ρ H ρ (upd (upd H P (.tbl (ps ++ #[rawInt a,rawInt b,.ref c]))) c (.ext (codeP c q))) :=
   ⟨fun _ _ e => e,fun d u e n => by
     rw [upd_ne (a := c) (fun (z : d = c) => by rw [z,hn] at e; cases e),upd_ne (a := P) (fun (z : d = P) => n (by rw [z]; exact List.mem_of_getElem? hP))]
     exact e,fun _ z n => absurd z n⟩
 refine ⟨e0,hS.len,hS.nd,fun i m d e1 e2 => ?_⟩
 by_cases hi : i = j
 · subst hi
   rw [hj] at e1; cases e1
   rw [hP] at e2; cases e2
   obtain ⟨T,ps',h1,h2,h3⟩ := hS.ob i _ P hj hP
   rw [hps] at h1; cases h1
   refine ⟨T,_,by rw [upd_ne hPc,upd_same],by rw [Array.toList_append]; exact TriplesOk_snoc a b _ _ h2,fun pos cv z => ?_⟩
   rw [Array.toList_append] at z
   rcases among_snoc _ h2 z with y | y
   · obtain ⟨c',z1,z2,z3⟩ := h3 pos cv y
     exact ⟨c',z1,z2,e0.keep _ _ z3 z2⟩
   · exact ⟨c,y,cf,upd_same⟩
 · have q := hS.ob i m d e1 e2
   obtain ⟨u,z⟩ := q.some
   exact q.mono e0 (by rw [upd_ne (a := c) (fun (y : d = c) => by rw [y,hn] at z; cases z),upd_ne (a := P) (fun (y : d = P) => hi (nodup_at hS.nd (by rw [e2,y]) hP))])
theorem fe_lamG (j : Nat) {caps : List Str} {cl : List (Str × Addr)} (hcd : CodeOf X.K X.mg x X.env.code) (hb : BltB X.base X.mg) (hcl : closureFor scope X.env = pure cl) (hdef : defaultsOf params X.env = ([],[]) := by rfl) :
   FE X (.Lambda params body scope pos) (eLam j x ⟨params,body,scope,X.env.qual ++ "<lambda>",caps,cl⟩) := by
 intro pins s σ H Q I h
 obtain ⟨ρ,ev,S,d,S',hE,hS,hf,k⟩ := h
 unfold eLam at hf
 split at hf
 · rename_i x' q hj
   split at hf
   · rename_i hxq
     obtain ⟨rfl,rfl⟩ := hxq
     cases hf
     obtain ⟨P,hP,T,ps,hps,htr,hcs⟩ := hS.adr hj
     obtain ⟨f1,o1,fd1,c1,e1,e2,e3,e4,e5⟩ := T
     obtain ⟨f2,o2,fd2,g1,g2,g3,g4⟩ := hcd
     rw [e1] at g1; cases g1
     rw [e2] at g2; cases g2
     rw [e3] at g3; cases g3
     have hcode : X.env.code = .ref c1 := g4.symm.trans e4
     have C : CodeHd s.heap c1 P := codeHd_of_K I.kIn e5
     have hPt : s.heap.get? P = some (tabObj ps) := I.hok P _ hps
     have bs := I.bs
     have nP : ∀ b o,X.base.get? b = some o → b ≠ P := fun b o e z => by
       have := (bs b o e).2
       rw [z,hps] at this; cases this
     have hg : s.heap.Ns mainGlobals X.mg := by
       obtain ⟨o,es,ep,ho,r⟩ := I.mod.glob
       exact ⟨o,es,ep,I.bk _ _ ho,r⟩
     have hgP : mainGlobals ≠ P := by
       obtain ⟨o,es,ep,ho,r⟩ := I.mod.glob
       exact nP _ _ ho
     obtain ⟨bm,ob,b1,b2,b3,b4,b5,b6,b7⟩ := hb
     have hBA : s.heap.BuiltinsAt X.mg P := ⟨bm,ob,b1,b2,b3,nP _ _ b4,I.bk _ _ b4,b5,b6,b7⟩
     refine kla_eval hdef ?_
     cases hca : codeAmong pos ps.toList with
     | none =>
       refine kla_makeFunction hcl I.ok.glob hg hcode C hPt htr hca hgP hBA fun c' ctv h' tk hx hge hlt hrec htb => ?_
       have hn : H c' = none := I.hok.fresh hge
       have I1 := inv_tab (q := X.env.qual ++ "<lambda>") (tk := tk) I hps hx htb hge hrec
       have I2 := inv_lam (t := ⟨params,body,scope,X.env.qual ++ "<lambda>",caps,cl⟩) (c := c') (pm := (X.mg "__name__").getD .none) (ct := ctv) (h' := h') (tk := tk) I1 (fun _ _ e => e) (Nat.le_refl _)
       obtain ⟨E1,S1⟩ := tab_grow (a := pos.line) (b := pos.col) hS hj hP hps hn
       have hf := I1.hok.fresh (a := h'.objs.size) (Nat.le_refl _)
       have E2 := ext_new S1 (.ext (lamP ⟨params,body,scope,X.env.qual ++ "<lambda>",caps,cl⟩ h'.objs.size c' ((X.mg "__name__").getD .none) ctv)) hf
       refine ⟨.ref h'.objs.size,_,I2,rfl,k _ ρ _ (E1.trans E2) (S1.new _ hf) ?_⟩
       unfold Rep
       exact ⟨_,rfl,S1.fresh hf,c',_,_,hS.fresh hn,upd_same,by rw [upd_ne (Nat.ne_of_lt hlt),upd_same]⟩
     | some cv =>
       obtain ⟨c',rfl,nc,hc'⟩ := hcs pos cv hca
       refine kla_makeFunctionHit hcl I.ok.glob hg hcode C hPt htr hca hBA fun ctv h' tk hk hsz => ?_
       have hf : H h'.objs.size = none := I.hok.fresh hsz
       have I2 := inv_lam (t := ⟨params,body,scope,X.env.qual ++ "<lambda>",caps,cl⟩) (c := c') (pm := (X.mg "__name__").getD .none) (ct := ctv) (h' := h') (tk := tk) I hk hsz
       have E2 := ext_new hS (.ext (lamP ⟨params,body,scope,X.env.qual ++ "<lambda>",caps,cl⟩ h'.objs.size c' ((X.mg "__name__").getD .none) ctv)) hf
       refine ⟨.ref h'.objs.size,_,I2,rfl,k _ ρ _ E2 (hS.new _ hf) ?_⟩
       unfold Rep
       exact ⟨_,rfl,hS.fresh hf,c',_,_,nc,upd_same,E2.keep _ _ hc' nc⟩
   · cases hf
 · cases hf
end
def bodyE (N n : Nat) (f : E) : G := fun ds S => if ds.length = n then f (ds.map some ++ List.replicate (N - ds.length) none) S else none
def LamH (t : LT) (a c : Addr) (pm ct : Value) (H : Hp) : Prop := H a = some (.ext (lamP t a c pm ct)) ∧ H c = some (.ext (codeP c t.qual))
section
variable {P : Program} {w : World} {K : Frag} {mg : Str → Option Value} {base : Heap} {k : Nat} {t : LT} {N ps : List Str} {f : E}
structure LCal (P : Program) (w : World) (K : Frag) (mg : Str → Option Value) (base : Heap) (k : Nat) (t : LT) (g : G) : Prop where
 ex : ∃ ps : List Str,(∀ (a c : Addr) (pm ct : Value),FnOk P w K mg base CX0 k a (kla_fn "<lambda>" t.qual t.params t.body t.scope [] pm (.ref c) ct) ps (fun vs H Q E => LamH t a c pm ct H ∧ spG K mg g vs H Q E)) ∧
   ∀ (c : Addr) (pm ct : Value),Binds K (kla_fn "<lambda>" t.qual t.params t.body t.scope [] pm (.ref c) ct) ps []
theorem LCal.mono {j : Nat} {g : G} (c : LCal P w K mg base j t g) (h : j ≤ k) : LCal P w K mg base k t g :=
 let ⟨ps,F,b⟩ := c.ex; ⟨ps,fun a c pm ct => (F a c pm ct).mono h,b⟩
end
def eCallW (ft : Str → Option G) (lt : LT → Option G) (f : E) (a : As) : E := fun ev S => (f ev S).bind fun p => match p.1 with
 | .fn x => (ft x).bind fun g => (a ev p.2).bind fun q => g q.1 q.2
 | .lam t => (lt t).bind fun g => (a ev p.2).bind fun q => g q.1 q.2
 | _ => none
section
variable {X : Cx} {k : Nat} {f : E} {a : As} {e : Expr} {es : List Expr} {pos : Pos}
theorem fe_callW {fe : Expr} {ft : Str → Option G} {lt : LT → Option G} (hT : ∀ x g,ft x = some g → Cal X.prog X.w X.K X.mg X.base k x g) (hL : ∀ t g,lt t = some g → LCal X.prog X.w X.K X.mg X.base k t g) (hr : Room k X.A) (hf : FE X fe f) (ha : FA X (e :: es) a)
   (ht : eval (.Call fe (e :: es) [] pos) X.env = (eval fe X.env >>= fun v => callWith pos v [] (backTo pos (starEach (e :: es) X.env)) (backToKw pos (keywordEach [] X.env))) := by rfl)
   (he : starEach (e :: es) X.env = (false,eval e X.env) :: starEach es X.env := by exact star_cons rfl) (hpl : (backTo pos (starEach es X.env)).any (·.1) = false := by exact back_any rfl) :
   FE X (.Call fe (e :: es) [] pos) (eCallW ft lt f a) := by
 intro pins s σ H Q I h
 obtain ⟨ρ,ev,S,d,S',hE,hS,hf',kk⟩ := h
 obtain ⟨⟨y,S1⟩,q1,hf'⟩ := bindS hf'
 cases y with
 | fn x =>
   refine fe_callV (ft := ft) hT hr hf ha ht he hpl pins s σ H Q I ⟨ρ,ev,S,d,S',hE,hS,?_,kk⟩
   unfold eCallV
   rw [q1]
   exact hf'
 | lam t =>
   rw [ht]
   dsimp only at hf'
   obtain ⟨g,hx,hf'⟩ := bindS hf'
   obtain ⟨⟨ds,S2⟩,q2,hf'⟩ := bindS hf'
   obtain ⟨ps,F,hb⟩ := (hL t g hx).ex
   refine wpAny_bind (thn (hf pins s σ H (fun v H1 => ∃ ρ1 a0,v = .ref a0 ∧ Ext ρ H ρ1 H1 ∧ StOk X.K X.mg ρ1 H1 S1 ∧ LamAt ρ1 H1 t a0) I ⟨ρ,ev,S,_,S1,hE,hS,q1,fun v ρ1 H1 E1 hS1 r1 => ?_⟩) fun u s1 ⟨v,H1,I1,rv,ρ1,a0,ev1,E1,hS1,L1⟩ => ?_)
   · unfold Rep at r1
     obtain ⟨b,rfl,L⟩ := r1
     exact ⟨ρ1,b,rfl,E1,hS1,L⟩
   · subst ev1
     obtain rfl : u = Value.ref a0 := rv
     obtain ⟨n0,c,pm,ct,nc,hA,hC⟩ := L1
     have at_ : ∀ {H' : Hp} {s' : Shared},Inv X pins σ H' s' → H' a0 = some (.ext (lamP t a0 c pm ct)) → FnAt a0 s'.heap := fun J e => ⟨_,_,_,_,(J.hok a0 _ e).1⟩
     refine callWith_F (at_ I1 hA) (thn (ha pos pins s1 σ H1 (fun vs H2 => (H2 a0 = some (.ext (lamP t a0 c pm ct))) ∧ (LamH t a0 c pm ct H2 ∧ spG X.K X.mg g vs H2 Q E0)) I1 ⟨ρ1,ev,S1,ds,S2,hE.mono E1,hS1,q2,fun vs ρ2 H2 E2 hS2 r2 => ?_⟩) fun us s2 ⟨vs,H2,I2,r,hA2,q2⟩ => ⟨at_ I2 hA2,?_⟩) he hpl
     · have h1 := E2.keep _ _ hA n0
       have h2 := E2.keep _ _ hC nc
       exact ⟨h1,⟨h1,h2⟩,ρ2,ds,S2,d,S',r2,hS2,hf',fun v ρ' H' E' hS' r' => kk v ρ' H' ((E1.trans E2).trans E') hS' r'⟩
     · exact run_fn (ds := []) (dvs := []) (F a0 c pm ct) hr (hb c pm ct) .nil pass0 I2 r (by rw [List.append_nil]; exact q2)
 | _ => cases hf'
end
end F
namespace F
open PySem L2 PySem.Spec PyProof.Rows PySem.W
def LawOkT (tabs : List (Str × Str)) (g : G) : Prop := ∀ ns : List Int,ns.length ≤ 63 → ∃ S,g [.lst (ns.map D.int)] (tabs.map fun p => MO.tab p.1 p.2) = some (.bl true,S)
def H0 (ts : List Addr) (so : Option (Addr × HO)) : Hp := fun b => if b ∈ ts then some (.tbl #[]) else match so with
 | some (a,o) => if b = a then some o else none
 | none => none
theorem look_none {as : List Addr} : ∀ {K : Frag} {P : Addr},as = K.map (·.1) → P ∉ as → K.lookup P = none
 | [],_,_,_ => rfl
 | (b,o) :: K,P,e,h => by
   subst e
   rw [List.map_cons,List.mem_cons,not_or] at h
   have hb : (P == b) = false := by simpa using h.1
   simp only [List.lookup,hb]
   exact look_none rfl h.2
section
variable {P : Program} {w : World} {K : Frag} {mg mb : Str → Option Value} {k : Nat} {fa a : Addr} {fd : FuncData} {x : Str} {sp : Sp} {s₁ : Shared} {vs : List Value} {ns : List Int} {ts : List Addr}
theorem law_callT (KX : K.In s₁.heap) (hns : s₁.heap.Ns mainGlobals mg) (hb : s₁.heap.Ns builtinsNs mb) (hbb : ∀ x : Str,x ≠ "__name__" → mb x = bootBuiltins x) (hlim : s₁.heap.NoLimit) (hg : s₁.gens = #[])
   (ha : s₁.heap.get? a = some { cls := .type "list",data := .seq vs.toArray }) (hi : IntsAre vs ns) (hl : ns.length ≤ sizeLine) (hr : Room k callerA)
   (hts : ∀ Q ∈ ts,s₁.heap.get? Q = some (tabObj #[]) ∧ K.lookup Q = none ∧ isCodeTable s₁.heap Q)
   (hbm : BltB s₁.heap mg) (F : ∀ base : Heap,K.In base → base.Ns mainGlobals mg → BltB base mg → FnOk P w K mg base CX0 k fa fd [x] sp) (hbind : ∀ (s : Shared) (u : Value),BindsTo s fd ⟨[u],[]⟩ [(x,u)])
   (hsp : ∀ so : Option (Addr × HO),a ∉ ts → SqL K (H0 ts so) a (ns.map V.int) → sp [.ref a] (H0 ts so) (fun v _ => v = .bl true) fun _ _ _ => False) :
   codeAny (model P w) callerA (.call (.ref fa) ⟨[.ref a],[]⟩) (fun r s' => r = .ok (.ret (.bool true)) ∧ OldK s₁.heap s'.heap ∧ s'.os = s₁.os ∧ AllBare s'.gens) s₁ := by
 have rv := vals_ints hi
 have lenV := hi.length
 have nat : a ∉ ts := fun z => by
   have e := (hts a z).1
   rw [ha] at e; cases e
 have core : ∀ so : Option (Addr × HO),(∀ b o,so = some (b,o) → b = a ∧ K.lookup a = none ∧ o = .frz { cls := .type "list",data := .seq vs.toArray } (.lst (ns.map V.int))) → SqL K (H0 ts so) a (ns.map V.int) →
     codeAny (model P w) callerA (.call (.ref fa) ⟨[.ref a],[]⟩) (fun r s' => r = .ok (.ret (.bool true)) ∧ OldK s₁.heap s'.heap ∧ s'.os = s₁.os ∧ AllBare s'.gens) s₁ := by
   intro so hso hS
   have cases3 : ∀ b,H0 ts so b = none ∨ (b ∈ ts ∧ H0 ts so b = some (.tbl #[])) ∨ (b = a ∧ K.lookup a = none ∧ H0 ts so b = some (.frz { cls := .type "list",data := .seq vs.toArray } (.lst (ns.map V.int)))) := fun b => by
     by_cases z : b ∈ ts
     · exact .inr (.inl ⟨z,if_pos z⟩)
     · cases so with
       | none => exact .inl (if_neg z)
       | some p =>
         obtain ⟨c,o⟩ := p
         obtain ⟨h1,h2,h3⟩ := hso c o rfl
         by_cases y : b = c
         · refine .inr (.inr ⟨y.trans h1,h2,?_⟩)
           unfold H0
           rw [if_neg z]
           show (if b = c then some o else none) = _
           rw [if_pos y,h3]
         · refine .inl ?_
           unfold H0
           rw [if_neg z]
           exact if_neg y
   have hok : HOk P w (H0 ts so) s₁.heap := fun b u e => by
     rcases cases3 b with q | ⟨q1,q2⟩ | ⟨rfl,_,q2⟩
     · rw [q] at e; cases e
     · rw [q2] at e; cases e
       exact (hts b q1).1
     · rw [q2] at e; cases e
       exact ⟨ha,by rw [List.length_map]; exact hl,vs,_,rv,ha⟩
   have free : ∀ {b : Addr} {o : Obj} {es : Array DictEntry} {ep : Nat},s₁.heap.get? b = some o → o.data = .dict es ep → H0 ts so b = none := fun {b o es ep} e d => by
     rcases cases3 b with q | ⟨q1,_⟩ | ⟨rfl,_,_⟩
     · exact q
     · rw [(hts b q1).1] at e; cases e; cases d
     · rw [ha] at e; cases e; cases d
   have nsK : ∀ {b : Addr} {m : Str → Option Value},s₁.heap.Ns b m → (hidT s₁.heap (H0 ts so)).Ns b m := fun ⟨o,es,ep,e,d,r⟩ => ⟨o,es,ep,hidT_get e (free e d),d,r⟩
   have hKb : K.In (hidT s₁.heap (H0 ts so)) := fun b o e => hidT_get (KX b o e) (by
     rcases cases3 b with q | ⟨q1,_⟩ | ⟨rfl,q1,_⟩
     · exact q
     · rw [(hts b q1).2.1] at e; cases e
     · rw [q1] at e; cases e)
   have hM : Mod K mg (hidT s₁.heap (H0 ts so)) := ⟨hKb,nsK hns,⟨mb,nsK hb,hbb⟩,let ⟨mc,h1,h2⟩ := hlim; ⟨mc,nsK h1,h2⟩⟩
   have e0 : Env0 P w K mg (hidT s₁.heap (H0 ts so)) callerA [] s₁ (H0 ts so) := ⟨rfl,hM,fun b o e => of_hidT e,Nat.le_of_eq (hidT_size _ _),trivial,fun b hb => absurd (show b ∈ ([] : List Addr) from hb) (by simp),hok,.of_eq hg⟩
   have hB : BltB (hidT s₁.heap (H0 ts so)) mg := by
     obtain ⟨bm,ob,b1,b2,b3,b4,b5,b6,b7⟩ := hbm
     refine ⟨bm,ob,b1,b2,b3,hidT_get b4 ?_,b5,b6,b7⟩
     rcases cases3 bm with q | ⟨q1,_⟩ | ⟨rfl,_,_⟩
     · exact q
     · rw [(hts bm q1).1] at b4; cases b4; cases b7
     · rw [ha] at b4; cases b4; cases b7
   refine codeAny_mono ((F _ hKb (nsK hns) hB).run callerA [] s₁ (H0 ts so) ⟨[.ref a],[]⟩ [.ref a] [.ref a] _ _ hr e0 (hbind s₁ (.ref a)) (.cons rfl .nil) (hsp so nat hS)) fun r s' h => ?_
   cases r with
   | error e => exact False.elim h
   | ok fl =>
     cases fl with
     | next => exact False.elim h
     | brk => exact False.elim h
     | cont => exact False.elim h
     | ret u =>
       obtain ⟨v,H',os,bare,un,hok',r',q⟩ := h
       obtain rfl : v = .bl true := q
       obtain rfl : u = Value.bool true := r'
       refine ⟨rfl,⟨fun b o e => ?_,fun b o e => un.there b o e (by simp)⟩,os,bare⟩
       rcases cases3 b with q | ⟨q1,q2⟩ | ⟨_,_,q2⟩
       · exact .inl (un.keep b o e q (fun z => absurd (show b ∈ ([] : List Addr) from z) (by simp)) (by simp))
       · obtain ⟨more,z⟩ := un.tbls b _ q2
         have e1 := (hts b q1).1
         rw [e] at e1; cases e1
         exact .inr (.inl ⟨(hts b q1).2.2,rfl,#[],more,rfl,hok' b _ z⟩)
       · have z := un.frzs b _ _ q2
         obtain ⟨e1,_⟩ := hok b _ q2
         obtain ⟨e2,_⟩ := hok' b _ z
         rw [e] at e1; cases e1
         exact .inl e2
 cases hk : K.lookup a with
 | some o =>
   have e := KX a o hk
   rw [ha] at e
   cases e
   exact core none (fun b o z => by cases z) (.inr ⟨_,vs.toArray,_,hk,rfl,rfl,rfl,by rw [List.size_toArray,lenV]; exact hl,by simpa using rv⟩)
 | none =>
   refine core (some (a,.frz { cls := .type "list",data := .seq vs.toArray } (.lst (ns.map V.int)))) (fun b o z => by cases z; exact ⟨rfl,hk,rfl⟩) (.inl (.inr ⟨{ cls := .type "list",data := .seq vs.toArray },?_⟩))
   unfold H0
   rw [if_neg nat]
   exact if_pos rfl
end
end F
namespace F
open PySem L2 PySem.Spec PyProof.Rows PySem.W
theorem code_table {K : Frag} {h : Heap} {c Q : Addr} (X : K.In h) (e : codeHdIn K c Q = true) : isCodeTable h Q := by
 obtain ⟨o,vs,_,_,_,_,_,_,_,h1,h2,h3,h4,_⟩ := codeHd_of_K X e
 exact ⟨c,o,vs,h1,h2,h3,h4⟩
theorem law_walkT {l : OpenLaw} {q : Program} {loose : List Str} {XP : (Str → Option Value) → Heap → Prop} {d : DefRec} {K : Params → Frag} {as : List Addr} {e : ∀ P,as = (K P).map (·.1)} {ts : List Addr} {k : Nat} {g : G} {x : Str} (tabs : List (Str × Str))
   (hn : l.most = some 63) (hdf : d.params.defaults = []) (hr : Room k callerA) (hts : ts.Nodup) (has : ∀ Q ∈ ts,Q ∉ as) (hlen : ts.length = tabs.length) (hg : LawOkT tabs g)
   (F : ∀ (w : World) (mg : Str → Option Value) (fa : Addr) (h : Heap),(K w.params).In h → h.Ns mainGlobals mg → mg d.name = some (.ref fa) →
     (∀ (i : Nat) (p : Str × Str) (Q : Addr),tabs[i]? = some p → ts[i]? = some Q → TabOf (K w.params) mg p.1 Q) ∧
     ∃ fd : FuncData,(∀ (s : Shared) (u : Value),BindsTo s fd ⟨[u],[]⟩ [(x,u)]) ∧ ∀ base : Heap,(K w.params).In base → base.Ns mainGlobals mg → BltB base mg → FnOk l.prog w (K w.params) mg base CX0 k fa fd [x] (spG (K w.params) mg g)) :
   WalkO q loose XP (kmHook K as e ts).says l.row.toRowW d [] (fun f vs => PySem.call f vs) := by
 refine Att.attach_call hn hdf fun w s₀ s₁ mg mb fa o pm cd doc a vs ns G Y ho hd hcd hmg hobj hints hlen' hg' => ?_
 have KX := km_in_of Y
 have TX := km_tabs_of Y
 obtain ⟨T,fd,hb,hF⟩ := F w mg fa _ KX G.T.g hmg
 have hbm : BltB s₁.heap mg := by
   obtain ⟨bm,ob,b1,b2,b3,b4,b5,b6⟩ := G.T.bmain
   refine ⟨bm,ob,b1,b2,fun q => ?_,b3,b4,b5,b6⟩
   obtain ⟨o,es,ep,e,hd,_⟩ := G.T.g
   rw [q,e] at b3; cases b3; rw [hd] at b6; cases b6
 refine law_callT (k := k) (fd := fd) (x := x) (ts := ts) (sp := spG (K w.params) mg g) KX G.T.g G.T.b G.T.builtins G.T.nolimit hg' hobj hints (Nat.le_trans hlen' (by decide)) hr (fun Q hQ => ⟨TX Q hQ,look_none (e w.params) (has Q hQ),?_⟩) hbm hF hb fun so nat hS => ?_
 · obtain ⟨i,hi,ei⟩ := List.getElem_of_mem hQ
   obtain ⟨f,o,fd,c,_,_,_,_,z⟩ := T i (tabs[i]'(by omega)) Q (List.getElem?_eq_getElem (by omega)) (by rw [List.getElem?_eq_getElem hi,ei])
   exact code_table KX z
 · obtain ⟨S,hS'⟩ := hg ns hlen'
   have tb : ∀ Q ∈ ts,H0 ts so Q = some (.tbl #[]) := fun Q hQ => if_pos hQ
   refine ⟨ts,[.lst (ns.map D.int)],tabs.map fun p => MO.tab p.1 p.2,.bl true,S,?_,⟨by rw [List.length_map]; exact hlen,hts,fun i m b e1 e2 => ?_⟩,hS',fun v ρ' H' _ _ r => by rw [show v = .bl true from r]⟩
   · refine RepL.cons ?_ RepL.nil
     unfold Rep
     refine ⟨a,ns.map V.int,rfl,?_,rep_ints ns⟩
     rcases hS with hS | hS
     · exact .inl ⟨nat,hS⟩
     · exact .inr hS
   · rw [List.getElem?_map] at e1
     cases hp : tabs[i]? with
     | none => rw [hp] at e1; cases e1
     | some p =>
       rw [hp] at e1; cases e1
       exact ⟨T i p b hp e2,#[],tb b (List.mem_of_getElem? e2),trivial,fun pos cv z => by cases z⟩
end F
namespace F
open PySem L2 PySem.Spec PyProof.Rows PySem.W
section
variable {P : Program} {w : World} {K : Frag} {mg : Str → Option Value} {base : Heap} {x qual : Str} {st : Stmt} {N ps : List Str} {k : Nat} {b : C} {dV : Value} {f : Addr} {fd : FuncData}
theorem FunD.code (F : FunD K x qual st f fd dV) {y : Str} (hm : mg y = some (.ref f)) : CodeOf K mg y fd.code := by
 obtain ⟨oc,od,kV,doc,pm,an,cdv,ct,osl,rfl,lk,hcd⟩ := F.ex
 exact ⟨f,_,_,hm,lk,rfl,rfl⟩
end
section
variable {K : Frag} {h : Heap} {mg : Str → Option Value} (X : K.In h) (G : h.Ns mainGlobals mg)
include X G
theorem has_tab {x : Str} {st : Stmt} {f c Q : Addr} {oc : Value} {od an : Option Addr} {osl : Array (Option Value)} {dV kV doc pm ct : Value} (a : nsIn K mainGlobals x = some (some (.ref f)))
   (l : K.lookup f = some ⟨oc,od,.func (fnOf x x (defArgs st) (defBody st) (defScope st) dV kV doc pm an (.ref c) ct),osl⟩) (z : codeHdIn K c Q = true) : TabOf K mg x Q :=
 ⟨f,_,_,c,mg_of X G a,l,rfl,rfl,z⟩
end
end F
namespace F
open PySem L2 PySem.Spec PySem.Calls PyProof.Rows PySem.W
def cxC (P : Program) (w : World) (K : Frag) (mg : Str → Option Value) (base : Heap) (N : List Str) (qual : Str) (scope : Scope) (f : Addr) (cd : Value) (cl : List (Str × Addr)) (A : Around) (outer : List Env) (s : Shared) (H H1 : Hp) (E : XK) : Cx where
 prog := P
 w := w
 K := K
 mg := mg
 base := base
 A := A.deeper (envX qual scope s.heap.objs.size f cd cl)
 N := N
 s₀ := s
 H₀ := H1
 env := envX qual scope s.heap.objs.size f cd cl
 outer := outer
 stack := envX qual scope s.heap.objs.size f cd cl :: outer
 ex := []
 calm := true
 fn := fun _ => false
 pn := []
 xe := fun e s' => wpAny (model P w) (A.deeper (envX qual scope s.heap.objs.size f cd cl)) (leaving (envX qual scope s.heap.objs.size f cd cl) e) (fun _ s'' => CX0 outer H s E e s'') (fun e' s'' => CX0 outer H s E e' s'') s'
def offC (H : Hp) (cl : List (Str × Addr)) : Hp := fun b => if b ∈ cl.map (·.2) then none else H b
theorem offC_in {H : Hp} {cl : List (Str × Addr)} {b : Addr} (h : b ∈ cl.map (·.2)) : offC H cl b = none := if_pos h
theorem offC_out {H : Hp} {cl : List (Str × Addr)} {b : Addr} (h : b ∉ cl.map (·.2)) : offC H cl b = H b := if_neg h
theorem Cells.at {ρ : List Addr} {H : Hp} : ∀ {xs : List Str} {us : List V} {cl : List (Str × Addr)},Cells ρ H xs us cl → ∀ b ∈ cl.map (·.2),∃ o w,H b = some (.frz o (.own 0)) ∧ o.data = .cell (some w)
 | [],[],[],_,b,hb => by cases hb
 | x :: xs,u :: us,p :: cl,h,b,hb => by
   rw [List.map_cons] at hb
   rcases List.mem_cons.mp hb with rfl | hb
   · obtain ⟨_,_,⟨o,w,h3,h4,_⟩,_⟩ := h
     exact ⟨o,w,h3,h4⟩
   · exact Cells.at h.2.2.2 b hb
 | [],[],_ :: _,h,_,_ => h.elim
 | [],_ :: _,_,h,_,_ => h.elim
 | _ :: _,[],_,h,_,_ => h.elim
 | _ :: _,_ :: _,[],h,_,_ => h.elim
theorem hok_off {P : Program} {w : World} {H : Hp} {h : Heap} {cl : List (Str × Addr)} (x : HOk P w H h) (hc : ∀ b ∈ cl.map (·.2),∃ o,H b = some (.frz o (.own 0))) : HOk P w (offC H cl) h := fun b u e => by
 by_cases z : b ∈ cl.map (·.2)
 · rw [offC_in z] at e; cases e
 · rw [offC_out z] at e
   refine (x b u e).stay (fun _ _ _ q => q) (fun d q => ?_) fun d xs q => ?_
   · rw [offC_out (fun y => by obtain ⟨o,y'⟩ := hc d y; rw [q] at y'; cases y')]; exact q
   · rw [offC_out (fun y => by obtain ⟨o,y'⟩ := hc d y; rw [q] at y'; cases y')]; exact q
theorem offC_none {H : Hp} {cl : List (Str × Addr)} {b : Addr} (h : H b = none) : offC H cl b = none := by
 unfold offC
 split
 · rfl
 · exact h
theorem Cells.names {ρ : List Addr} {H : Hp} : ∀ {xs : List Str} {us : List V} {cl : List (Str × Addr)},Cells ρ H xs us cl → cl.map (·.1) = xs ∧ us.length = xs.length
 | [],[],[],_ => ⟨rfl,rfl⟩
 | x :: xs,u :: us,p :: cl,h => by
   obtain ⟨h1,h2⟩ := Cells.names h.2.2.2
   exact ⟨by rw [List.map_cons,h1,h.1],by rw [List.length_cons,List.length_cons,h2]⟩
 | [],[],_ :: _,h => h.elim
 | [],_ :: _,_,h => h.elim
 | _ :: _,[],_,h => h.elim
 | _ :: _,_ :: _,[],h => h.elim
theorem Cells.get {ρ : List Addr} {H : Hp} : ∀ {xs : List Str} {us : List V} {cl : List (Str × Addr)},Cells ρ H xs us cl → xs.Nodup → ∀ (i : Nat) (x : Str) (u : V),xs[i]? = some x → us[i]? = some u → ∃ b o w,cl.lookup x = some b ∧ H b = some (.frz o (.own 0)) ∧ o.data = .cell (some w) ∧ RelV u w
 | x :: xs,u :: us,p :: cl,h,nd,0,y,v,e1,e2 => by
   cases e1; cases e2
   obtain ⟨h1,_,⟨o,w,h3,h4,h5⟩,_⟩ := h
   exact ⟨p.2,o,w,by obtain ⟨a,b⟩ := p; subst h1; simp [List.lookup],h3,h4,h5⟩
 | x :: xs,u :: us,p :: cl,h,nd,i + 1,y,v,e1,e2 => by
   obtain ⟨b,o,w,z1,z2⟩ := Cells.get h.2.2.2 (List.nodup_cons.mp nd).2 i y v e1 e2
   have ne : (y == p.1) = false := by
     rw [h.1]
     refine beq_false_of_ne fun z => (List.nodup_cons.mp nd).1 ?_
     rw [← z]
     exact List.mem_of_getElem? e1
   refine ⟨b,o,w,?_,z2⟩
   obtain ⟨a,c⟩ := p
   simp only [List.lookup,ne]
   exact z1
 | [],[],[],_,_,_,_,_,e1,_ => by cases e1
 | [],[],_ :: _,h,_,_,_,_,_,_ => h.elim
 | [],_ :: _,_,h,_,_,_,_,_,_ => h.elim
 | _ :: _,[],_,h,_,_,_,_,_,_ => h.elim
 | _ :: _,_ :: _,[],h,_,_,_,_,_,_ => h.elim
structure CloScope (ps caps : List Str) (sc : Scope) : Prop where
 kind : sc.kind = .function
 co : sc.isCoroutine = false
 gen : sc.isGenerator = false
 nd : (ps ++ caps).Nodup
 par : ∀ x ∈ ps,sc.names.lookup x = some .local
 cap : ∀ x ∈ caps,sc.names.lookup x = some .free
 nocell : ∀ y ∈ sc.names,y.2 ≠ .cell
 fre : ∀ y ∈ sc.names,y.2 = .free → y.1 ∈ caps
theorem rev_lookup : ∀ {ps : List Str} {us : List Value} {i : Nat} {x : Str} {u : Value},ps.Nodup → ps[i]? = some x → us[i]? = some u → (ps.zip us).reverse.lookup x = some u
 | [],_,_,_,_,_,e,_ => by cases e
 | p :: ps,[],i,x,u,_,_,e => by cases e
 | p :: ps,w :: us,i,x,u,nd,e1,e2 => by
   rw [List.zip_cons_cons,List.reverse_cons,List.lookup_append]
   cases i with
   | zero =>
     cases e1; cases e2
     have : (ps.zip us).reverse.lookup p = none := by
       rw [List.lookup_eq_none_iff]
       intro q hq
       have := (List.of_mem_zip (a := q.1) (b := q.2) (List.mem_reverse.mp hq)).1
       simpa using fun (z : p = q.1) => (List.nodup_cons.mp nd).1 (z ▸ this)
     rw [this]
     simp [List.lookup]
   | succ i =>
     rw [rev_lookup (List.nodup_cons.mp nd).2 e1 e2]
     rfl
theorem inv_startC {P : Program} {w : World} {K : Frag} {mg : Str → Option Value} {base : Heap} {ps caps : List Str} {qual : Str} {scope : Scope} {f : Addr} {cd : Value} {cl : List (Str × Addr)} {A : Around} {outer : List Env} {s : Shared} {H : Hp} {E : XK} {us : List Value} {vs cs : List V} {ρ : List Addr} {h' : Heap} {tk : Nat}
   (S : CloScope ps caps scope) (hd : A.handled = none) (e0 : Env0 P w K mg base A outer s H) (hl : vs.length = ps.length) (r : Vals vs us) (hc : Cells ρ H caps cs cl) (hcn : (cl.map (·.2)).Nodup)
   (hns : h'.Ns s.heap.objs.size (fun x => (ps.zip us).reverse.lookup x)) (hk : ∀ b o,s.heap.get? b = some o → h'.get? b = some o) :
   Inv (cxC P w K mg base (ps ++ caps) qual scope f cd cl A outer s H (offC H cl) E) [] ((vs ++ cs).map some) (offC H cl) { s with heap := h',toks := tk } := by
 have noA : ∀ b : Addr,b ∉ (cxC P w K mg base (ps ++ caps) qual scope f cd cl A outer s H (offC H cl) E).ex := fun b z => absurd (show b ∈ ([] : List Addr) from z) (by simp)
 have hnm := hc.names
 have mem : ∀ {x : Str} {c : Addr},cl.lookup x = some c → (x,c) ∈ cl := fun h => mem_of_lookup_some h
 have hcf : ∀ b ∈ cl.map (·.2),∃ o,H b = some (.frz o (.own 0)) := fun b hb => let ⟨o,_,h1,_⟩ := hc.at b hb; ⟨o,h1⟩
 refine ⟨⟨e0.mod,S.kind,rfl,rfl,Nat.le_refl _,fun y z c h1 h2 => ?_,fun y hy => ?_,fun y c h _ => (by cases h),fun _ => hd,Around.frames_deeper e0.frames,.inr ⟨rfl,rfl⟩,fun b z => absurd z (noA b),fun b o e => ⟨(e0.bs b o e).1,offC_none (e0.bs b o e).2⟩,e0.bsz,fun b _ _ => noA b,fun b z => absurd z (noA b),e0.funs,fun b hb => offC_none (e0.frf b hb)⟩,
   rfl,e0.bare,Un.kept hk,⟨_,hns,fun i y v h1 h2 h3 => ?_⟩,fun y c h => ?_,offC_none (e0.hok.fresh (Nat.le_refl _)),fun y c h => offC_in (List.mem_map_of_mem (mem h)),fun p hp => absurd (show p ∈ ([] : List (Addr × Obj)) from hp) (by simp),(hok_off e0.hok hcf).kept hk,?_⟩
 · have m1 := mem h1
   have m2 := mem h2
   obtain ⟨i,hi,ei⟩ := List.getElem_of_mem m1
   obtain ⟨j,hj,ej⟩ := List.getElem_of_mem m2
   have : i = j := (List.getElem_inj (i := i) (j := j) (h₀ := by simpa using hi) (h₁ := by simpa using hj) hcn).mp (by simp [ei,ej])
   subst this
   rw [ei] at ej
   exact congrArg Prod.fst ej
 · have hy : scope.names.lookup y = some .cell ∨ scope.names.lookup y = some .free := hy
   rcases hy with hy | hy
   · exact absurd rfl (S.nocell _ (PySem.mem_of_lookup hy))
   · have hm : y ∈ caps := S.fre _ (PySem.mem_of_lookup hy) rfl
     obtain ⟨i,hi,ei⟩ := List.getElem_of_mem hm
     obtain ⟨b,o,w,z,_⟩ := hc.get ((List.nodup_append.mp S.nd).2.1) i y (cs[i]'(by omega)) (by rw [List.getElem?_eq_getElem hi,ei]) (List.getElem?_eq_getElem _)
     exact ⟨b,z⟩
 · rw [List.getElem?_map] at h2
   have h1 : (ps ++ caps)[i]? = some y := h1
   by_cases hi : i < ps.length
   · rw [List.getElem?_append_left hi] at h1
     rw [List.getElem?_append_left (by omega)] at h2
     cases hv : vs[i]? with
     | none => rw [hv] at h2; cases h2
     | some a =>
       rw [hv] at h2; cases h2
       obtain ⟨u,hu,ru⟩ := r.get hv
       exact ⟨u,ru,.inl ⟨S.par y (List.mem_of_getElem? h1),rev_lookup (List.nodup_append.mp S.nd).1 h1 hu⟩⟩
   · rw [List.getElem?_append_right (by omega)] at h1
     rw [List.getElem?_append_right (by omega),hl] at h2
     cases hv : cs[i - ps.length]? with
     | none => rw [hv] at h2; cases h2
     | some a =>
       rw [hv] at h2; cases h2
       obtain ⟨b,o,w,z1,z2,z3,z4⟩ := hc.get (List.nodup_append.mp S.nd).2.1 _ y _ h1 hv
       exact ⟨w,z4,.inr ⟨.inr (S.cap y (List.mem_of_getElem? h1)),b,z1,o,hk _ _ (e0.hok b _ z2).1,z3⟩⟩
 · obtain ⟨o,w,z2,z3⟩ := hc.at c (List.mem_map_of_mem (mem h))
   exact ⟨some w,o,hk _ _ (e0.hok c _ z2).1,z3⟩
 · show ((vs ++ cs).map some).length = (ps ++ caps).length
   rw [List.length_map,List.length_append,List.length_append,hl,hnm.2]
def onC (H H0 : Hp) (cl : List (Str × Addr)) : Hp := fun b => if b ∈ cl.map (·.2) then H0 b else H b
theorem onC_in {H H0 : Hp} {cl : List (Str × Addr)} {b : Addr} (h : b ∈ cl.map (·.2)) : onC H H0 cl b = H0 b := if_pos h
theorem onC_out {H H0 : Hp} {cl : List (Str × Addr)} {b : Addr} (h : b ∉ cl.map (·.2)) : onC H H0 cl b = H b := if_neg h
theorem un_on {fs : List Addr} {H H' : Hp} {h h' : Heap} {cl : List (Str × Addr)} (u : Un fs [] (offC H cl) H' h h') (hc : ∀ b ∈ cl.map (·.2),∃ o,H b = some (.frz o (.own 0))) : Un fs [] H (onC H' H cl) h h' := by
 have out : ∀ b,H b = none → b ∉ cl.map (·.2) := fun b n z => by obtain ⟨o,y⟩ := hc b z; rw [n] at y; cases y
 refine ⟨fun b o e n hb hx => u.keep b o e (offC_none n) hb hx,fun b o e n hb hx => u.slot b o e (offC_none n) hb hx,fun b o e n hx => ?_,u.there,fun b xs e => ?_,fun b o v e => ?_,fun b ps e => ?_⟩
 · rw [onC_out (out b n)]; exact u.free b o e (offC_none n) hx
 · have z : b ∉ cl.map (·.2) := fun z => by obtain ⟨o,y⟩ := hc b z; rw [e] at y; cases y
   rw [onC_out z]; exact u.tups b xs (by rw [offC_out z]; exact e)
 · by_cases z : b ∈ cl.map (·.2)
   · rw [onC_in z]; exact e
   · rw [onC_out z]; exact u.frzs b o v (by rw [offC_out z]; exact e)
 · have z : b ∉ cl.map (·.2) := fun z => by obtain ⟨o,y⟩ := hc b z; rw [e] at y; cases y
   obtain ⟨more,q⟩ := u.tbls b ps (by rw [offC_out z]; exact e)
   exact ⟨more,by rw [onC_out z]; exact q⟩
theorem hok_on {P : Program} {w : World} {fs : List Addr} {H H' : Hp} {h h' : Heap} {cl : List (Str × Addr)} (u : Un fs [] (offC H cl) H' h h') (x0 : HOk P w H h) (x : HOk P w H' h') (hc : ∀ b ∈ cl.map (·.2),(∃ o,H b = some (.frz o (.own 0))) ∧ b ∉ fs) : HOk P w (onC H' H cl) h' := fun b v e => by
 have nn : ∀ d ∈ cl.map (·.2),H' d = none := fun d hd => by
   obtain ⟨⟨o,z⟩,_⟩ := hc d hd
   exact u.free d o (x0 d _ z).1 (offC_in hd) (by simp)
 by_cases z : b ∈ cl.map (·.2)
 · rw [onC_in z] at e
   obtain ⟨⟨o,y⟩,nf⟩ := hc b z
   rw [y] at e; cases e
   have := u.keep b o (x0 b _ y).1 (offC_in z) nf (by simp)
   exact ⟨this,⟨o,this⟩⟩
 · rw [onC_out z] at e
   refine (x b v e).stay (fun _ _ _ q => q) (fun d q => ?_) fun d xs q => ?_
   · rw [onC_out (fun y => by rw [nn d y] at q; cases q)]; exact q
   · rw [onC_out (fun y => by rw [nn d y] at q; cases q)]; exact q
end F
namespace F
open PySem L2 PySem.Spec PySem.Calls PyProof.Rows PySem.W
mutual
def noC : D → Bool
 | .tup ds => noCL ds
 | .lst ds => noCL ds
 | .clo _ _ => false
 | _ => true
def noCL : List D → Bool
 | [] => true
 | d :: ds => noC d && noCL ds
end
def noCM : MO → Bool
 | .lst ds => noCL ds
 | .ins _ fs => noCL (fs.map (·.2))
 | .dct kvs => noCL (kvs.map (·.2))
 | .exc _ => true
 | .tab _ _ => true
def noCS (S : Sto) : Bool := S.all noCM
section
variable {K : PySem.W.Frag} {mg : Str → Option Value} {ρ ρ' : List Addr} {H H' : Hp} {S S1 : Sto} {cl : List (Str × Addr)}
def CellsIn (H : Hp) (cl : List (Str × Addr)) : Prop := ∀ b ∈ cl.map (·.2),∃ o,H b = some (.frz o (.own 0))
theorem CellsIn.out (hc : CellsIn H cl) {b : Addr} {u : HO} (h : H b = some u) (n : ∀ o,u ≠ .frz o (.own 0)) : offC H cl b = some u := by
 rw [offC_out (fun z => by obtain ⟨o,y⟩ := hc b z; rw [h] at y; exact n o (Option.some.inj y))]; exact h
theorem TupAt.off {p : Addr} {vs : List V} (hc : CellsIn H cl) (h : TupAt K ρ H p vs) : TupAt K ρ (offC H cl) p vs := by
 rcases h with ⟨n,h | ⟨o,h⟩⟩ | h
 · exact .inl ⟨n,.inl (hc.out h fun _ z => by cases z)⟩
 · exact .inl ⟨n,.inr ⟨o,hc.out h fun _ z => by cases z⟩⟩
 · exact .inr h
theorem LstAt.off {p : Addr} {vs : List V} (hc : CellsIn H cl) (h : LstAt K ρ H p vs) : LstAt K ρ (offC H cl) p vs := by
 rcases h with ⟨n,h | ⟨o,h⟩⟩ | h
 · exact .inl ⟨n,.inl (hc.out h fun _ z => by cases z)⟩
 · exact .inl ⟨n,.inr ⟨o,hc.out h fun _ z => by cases z⟩⟩
 · exact .inr h
mutual
theorem Rep.off (hc : CellsIn H cl) : ∀ {d : D} {v : V},noC d = true → Rep K mg ρ H d v → Rep K mg ρ (offC H cl) d v
 | .non,_,_,h => h
 | .bl _,_,_,h => h
 | .int _,_,_,h => h
 | .str _,_,_,h => h
 | .fn _,_,_,h => h
 | .ty _,_,_,h => h
 | .tup ds,_,hb,h => by
   unfold Rep at h ⊢
   unfold noC at hb
   obtain ⟨p,vs,e1,t,r⟩ := h
   exact ⟨p,vs,e1,t.off hc,RepL.off hc hb r⟩
 | .lst ds,_,hb,h => by
   unfold Rep at h ⊢
   unfold noC at hb
   obtain ⟨p,vs,e1,t,r⟩ := h
   exact ⟨p,vs,e1,t.off hc,RepL.off hc hb r⟩
 | .obj i,_,hb,h => by
   unfold Rep at h ⊢
   exact h
 | .lam t,_,_,h => by
   unfold Rep at h ⊢
   obtain ⟨a,e1,n1,c,pm,ct,n2,h1,h2⟩ := h
   exact ⟨a,e1,n1,c,pm,ct,n2,hc.out h1 (fun _ z => by cases z),hc.out h2 (fun _ z => by cases z)⟩
 | .clo t vs,_,hb,h => by
   unfold noC at hb
   cases hb
theorem RepL.off (hc : CellsIn H cl) : ∀ {ds : List D} {vs : List V},noCL ds = true → RepL K mg ρ H ds vs → RepL K mg ρ (offC H cl) ds vs
 | [],_,_,h => h
 | d :: ds,_,hb,h => by
   unfold RepL at h ⊢
   unfold noCL at hb
   obtain ⟨v,r,e,h1,h2⟩ := h
   obtain ⟨b1,b2⟩ := Bool.and_eq_true_iff.mp hb
   exact ⟨v,r,e,Rep.off hc b1 h1,RepL.off hc b2 h2⟩
end
theorem MOk.off {a : Addr} {m : MO} (hc : CellsIn H cl) (hb : noCM m = true) (h : MOk K mg ρ H a m) : MOk K mg ρ (offC H cl) a m := by
 cases m with
 | lst ds => obtain ⟨vs,h1,h2⟩ := h; exact ⟨vs,hc.out h1 (fun _ z => by cases z),h2.off hc hb⟩
 | ins c fs => obtain ⟨C,dx,vs,h0,h1,h2,h3⟩ := h; exact ⟨C,dx,vs,h0,hc.out h1 (fun _ z => by cases z),h2,h3.off hc hb⟩
 | dct kvs => obtain ⟨vs,h1,h2,h3⟩ := h; exact ⟨vs,hc.out h1 (fun _ z => by cases z),h2,h3.off hc hb⟩
 | exc c => obtain ⟨C,h1,h2⟩ := h; exact ⟨C,h1,hc.out h2 (fun _ z => by cases z)⟩
 | tab x q => obtain ⟨h0,ps,h1,h2,h3⟩ := h; exact ⟨h0,ps,hc.out h1 (fun _ z => by cases z),h2,fun pos cv z => let ⟨c,z1,z2,z3⟩ := h3 pos cv z; ⟨c,z1,z2,hc.out z3 (fun _ z => by cases z)⟩⟩
theorem StOk.off (hS : StOk K mg ρ H S) (hc : CellsIn H cl) (hb : noCS S = true) : StOk K mg ρ (offC H cl) S :=
 ⟨hS.len,hS.nd,fun i m a e1 e2 => (hS.ob i m a e1 e2).off hc (List.all_eq_true.mp hb m (List.mem_of_getElem? e1))⟩
theorem Ext.on (e : Ext ρ (offC H cl) ρ' H') (hS : StOk K mg ρ' H' S1) (nn : ∀ b ∈ cl.map (·.2),H' b = none) (no : ∀ b ∈ cl.map (·.2),b ∉ ρ) : Ext ρ H ρ' (onC H' H cl) := by
 refine ⟨e.pre,fun b o h n => ?_,fun b h n => ?_⟩
 · by_cases z : b ∈ cl.map (·.2)
   · rw [onC_in z]; exact h
   · rw [onC_out z]; exact e.keep b o (by rw [offC_out z]; exact h) n
 · by_cases z : b ∈ cl.map (·.2)
   · obtain ⟨o,y⟩ := hS.mem h
     rw [nn b z] at y; cases y
   · rw [← offC_out (H := H) z]; exact e.new b h n
theorem ext_on (nn : ∀ b ∈ cl.map (·.2),H' b = none) : Ext ρ' H' ρ' (onC H' H cl) :=
 ⟨fun _ _ e => e,fun b o h n => by
   rw [onC_out (fun z => by rw [nn b z] at h; cases h)]; exact h,fun _ z n => absurd z n⟩
theorem StOk.on (hS : StOk K mg ρ' H' S1) (nn : ∀ b ∈ cl.map (·.2),H' b = none) : StOk K mg ρ' (onC H' H cl) S1 :=
 ⟨hS.len,hS.nd,fun i m a e1 e2 => by
   have q := hS.ob i m a e1 e2
   obtain ⟨u,z⟩ := q.some
   exact q.mono (ext_on nn) (onC_out (fun y => by rw [nn a y] at z; cases z))⟩
theorem Cells.out : ∀ {xs : List Str} {us : List V} {cl : List (Str × Addr)},Cells ρ H xs us cl → ∀ b ∈ cl.map (·.2),b ∉ ρ
 | [],[],[],_,b,hb => by cases hb
 | x :: xs,u :: us,p :: cl,h,b,hb => by
   rw [List.map_cons] at hb
   rcases List.mem_cons.mp hb with rfl | hb
   · exact h.2.1
   · exact Cells.out h.2.2.2 b hb
 | [],[],_ :: _,h,_,_ => h.elim
 | [],_ :: _,_,h,_,_ => h.elim
 | _ :: _,[],_,h,_,_ => h.elim
 | _ :: _,_ :: _,[],h,_,_ => h.elim
theorem Cells.cin {xs : List Str} {us : List V} (h : Cells ρ H xs us cl) : CellsIn H cl := fun b hb => let ⟨o,_,h1,_⟩ := h.at b hb; ⟨o,h1⟩
end
def spClo (K : PySem.W.Frag) (mg : Str → Option Value) (t : LT) (a c : Addr) (pm ct : Value) (cl : List (Str × Addr)) (g : G) : Sp := fun vs H Q _ => ∃ ρ ds S d S' us kv,RepL K mg ρ H ds vs ∧ StOk K mg ρ H S ∧ H a = some (.ext (cloP t cl a c pm ct)) ∧ H c = some (.ext (codeP c t.qual)) ∧ (cl.map (·.2)).Nodup ∧ Cells ρ H t.caps us cl ∧ RepL K mg ρ H kv us ∧
 (noCL ds && noCL kv && noCS S) = true ∧ g (ds ++ kv) S = some (d,S') ∧ ds.length = t.params.args.length ∧ ∀ v ρ' H',Ext ρ H ρ' H' → StOk K mg ρ' H' S' → Rep K mg ρ' H' d v → Q v H'
section
variable {P : Program} {w : World} {K : Frag} {mg : Str → Option Value} {base : Heap} {k : Nat} {t : LT} {ps : List Str} {f : E}
theorem clo_fn (S : CloScope ps t.caps t.scope) (hpl : ps.length = t.params.args.length) (a c : Addr) (pm ct : Value) (cl : List (Str × Addr))
   (hbody : ∀ (A : Around) (outer : List Env) (s : Shared) (H H1 : Hp) (E : XK),Room k (A.deeper (envX t.qual t.scope s.heap.objs.size a (.ref c) cl)) → FE (cxC P w K mg base (ps ++ t.caps) t.qual t.scope a (.ref c) cl A outer s H H1 E).nox t.body f) :
   FnOk P w K mg base CX0 (k + 1) a (kla_fn "<lambda>" t.qual t.params t.body t.scope cl pm (.ref c) ct) ps (spClo K mg t a c pm ct cl (bodyE (ps ++ t.caps).length (ps ++ t.caps).length f)) := by
 have len : ∀ vs H Q E,spClo K mg t a c pm ct cl (bodyE (ps ++ t.caps).length (ps ++ t.caps).length f) vs H Q E → vs.length = ps.length := fun vs H Q E h => by
   obtain ⟨ρ,ds,S,d,S',us,kv,r,_,_,_,_,_,_,_,_,hl,_⟩ := h
   rw [← r.length,hl,hpl]
 refine ⟨len,fun A outer s H args us vs Q E hr e0 hb r hsp => ?_⟩
 have hl := len _ _ _ _ hsp
 obtain ⟨ρ,ds,S0,d,S',cs,kv,rr,hS,hA,hC,hnd,hcs,rk,hno,hf,hdl,kk⟩ := hsp
 have lim : s.heap.NoLimit := e0.mod.nolimit.keeps fun b o e => (e0.bs b o e).1
 have ho : s.heap.get? a = some (kla_obj "<lambda>" t.qual t.params t.body t.scope cl pm c ct) := (e0.hok a _ hA).1
 have hcd : s.heap.CodeRec (.ref c) t.qual := (e0.hok c _ hC).1
 have hloc : ∀ y ∈ ps.zip us,t.scope.names.lookup y.1 = some .local := fun ⟨n,v⟩ hy => S.par n (List.of_mem_zip hy).1
 refine kla_callFunE hr.depth ho rfl S.co S.gen rfl hcd (hb _ _ _ _ ?_)
 refine wpAny_newFunctionEnv S.nocell hloc (fun h₁ hns hsb => ⟨lim.fresh _ hsb,?_⟩) S.kind
 show codeAny _ _ (.expr t.body (envX t.qual t.scope s.heap.objs.size a (.ref c) cl)) _ _
 have hk₁ : ∀ b o,s.heap.get? b = some o → h₁.get? b = some o := fun b o e => hsb.extBut b o (Nat.ne_of_lt (Heap.lt_size e)) (Heap.get?_push_of_some _ e)
 refine kla_codeExpr ?_
 have I := inv_startC (qual := t.qual) (f := a) (cd := .ref c) (E := E) (tk := s.toks + (ps.zip us).length) S hr.hd e0 hl r hcs hnd hns hk₁
 have cin := hcs.cin
 rw [Bool.and_eq_true,Bool.and_eq_true] at hno
 obtain ⟨⟨n1,n2⟩,n3⟩ := hno
 unfold bodyE at hf
 split at hf
 · rename_i hlen
   have hpe := (hbody A outer s H (offC H cl) E (hr.deeper _)).nox
   have rs : RepL K mg ρ (offC H cl) (ds ++ kv) (vs ++ cs) := (rr.off cin n1).append (rk.off cin n2)
   have ev : EnvR K mg ρ (offC H cl) ((ds ++ kv).map some) ((vs ++ cs).map some) := by
     refine ⟨by rw [List.length_map,List.length_map,rs.length],fun i x q => ?_⟩
     rw [List.getElem?_map] at q ⊢
     cases hx : (ds ++ kv)[i]? with
     | none => rw [hx] at q; cases q
     | some y =>
       rw [hx] at q; cases q
       obtain ⟨v,e1,r1⟩ := rs.get hx
       exact ⟨v,by rw [e1]; rfl,r1⟩
   rw [hlen,Nat.sub_self,List.replicate_zero,List.append_nil] at hf
   have hb2 : ∀ b ∈ cl.map (·.2),(∃ o,H b = some (.frz o (.own 0))) ∧ b ∉ frs outer := fun b hb => ⟨cin b hb,fun z => by
     obtain ⟨o,y⟩ := cin b hb
     rw [e0.frf b z] at y; cases y⟩
   refine wpAny_mono (hpe [] _ ((vs ++ cs).map some) (offC H cl) (fun v H' => (∀ b ∈ cl.map (·.2),H' b = none) → Q v (onC H' H cl)) I ⟨ρ,_,S0,d,S',ev,hS.off cin n3,hf,fun v ρ' H' E' hS' r' nn => ?_⟩) (fun v s' hs => ?_) fun e s' hs => hs
   · exact kk v ρ' _ (E'.on hS' nn hcs.out) (hS'.on nn) (r'.mono (ext_on nn))
   · obtain ⟨v',H',J,rv,q⟩ := hs
     have un : Un (frs outer) [] (offC H cl) H' s.heap s'.heap := J.base
     have nn : ∀ b ∈ cl.map (·.2),H' b = none := fun b hb => by
       obtain ⟨⟨o,z⟩,_⟩ := hb2 b hb
       exact un.free b o (e0.hok b _ z).1 (offC_in hb) (by simp)
     exact ⟨v',onC H' H cl,J.os,J.bare,un_on un cin,hok_on un e0.hok J.hok hb2,rv,q nn⟩
 · cases hf
structure CCal (P : Program) (w : World) (K : Frag) (mg : Str → Option Value) (base : Heap) (k : Nat) (t : LT) (g : G) : Prop where
 ex : ∃ ps : List Str,(∀ (a c : Addr) (pm ct : Value) (cl : List (Str × Addr)),FnOk P w K mg base CX0 k a (kla_fn "<lambda>" t.qual t.params t.body t.scope cl pm (.ref c) ct) ps (spClo K mg t a c pm ct cl g)) ∧
   ∀ (c : Addr) (pm ct : Value) (cl : List (Str × Addr)),Binds K (kla_fn "<lambda>" t.qual t.params t.body t.scope cl pm (.ref c) ct) ps []
theorem CCal.mono {j : Nat} {g : G} (c : CCal P w K mg base j t g) (h : j ≤ k) : CCal P w K mg base k t g :=
 let ⟨ps,F,b⟩ := c.ex; ⟨ps,fun a c pm ct cl => (F a c pm ct cl).mono h,b⟩
theorem CCal.of (S : CloScope ps t.caps t.scope) (hpl : ps.length = t.params.args.length) (hb : ∀ (c : Addr) (pm ct : Value) (cl : List (Str × Addr)) (us : List Value),us.length = ps.length → bindArgs (kla_fn "<lambda>" t.qual t.params t.body t.scope cl pm (.ref c) ct) ⟨us,[]⟩ = pure (ps.zip us))
   (hbody : ∀ (a c : Addr) (cl : List (Str × Addr)) (A : Around) (outer : List Env) (s : Shared) (H H1 : Hp) (E : XK),Room k (A.deeper (envX t.qual t.scope s.heap.objs.size a (.ref c) cl)) → FE (cxC P w K mg base (ps ++ t.caps) t.qual t.scope a (.ref c) cl A outer s H H1 E).nox t.body f) :
   CCal P w K mg base (k + 1) t (bodyE (ps ++ t.caps).length (ps ++ t.caps).length f) :=
 ⟨ps,fun a c pm ct cl => clo_fn S hpl a c pm ct cl (hbody a c cl),fun c pm ct cl => .all (hb c pm ct cl)⟩
end
def eCallX (ft : Str → Option G) (lt ct : LT → Option G) (f : E) (a : As) : E := fun ev S => (f ev S).bind fun p => match p.1 with
 | .fn x => (ft x).bind fun g => (a ev p.2).bind fun q => g q.1 q.2
 | .lam t => (lt t).bind fun g => (a ev p.2).bind fun q => g q.1 q.2
 | .clo t vs => (ct t).bind fun g => (a ev p.2).bind fun q => if (noCL q.1 && noCL vs && noCS q.2) = true ∧ q.1.length = t.params.args.length then g (q.1 ++ vs) q.2 else none
 | _ => none
section
variable {X : Cx} {k : Nat} {f : E} {a : As} {e : Expr} {es : List Expr} {pos : Pos}
theorem fe_callX {fe : Expr} {ft : Str → Option G} {lt ct : LT → Option G} (hT : ∀ x g,ft x = some g → Cal X.prog X.w X.K X.mg X.base k x g) (hL : ∀ t g,lt t = some g → LCal X.prog X.w X.K X.mg X.base k t g) (hC : ∀ t g,ct t = some g → CCal X.prog X.w X.K X.mg X.base k t g) (hr : Room k X.A) (hf : FE X fe f) (ha : FA X (e :: es) a)
   (ht : eval (.Call fe (e :: es) [] pos) X.env = (eval fe X.env >>= fun v => callWith pos v [] (backTo pos (starEach (e :: es) X.env)) (backToKw pos (keywordEach [] X.env))) := by rfl)
   (he : starEach (e :: es) X.env = (false,eval e X.env) :: starEach es X.env := by exact star_cons rfl) (hpl : (backTo pos (starEach es X.env)).any (·.1) = false := by exact back_any rfl) :
   FE X (.Call fe (e :: es) [] pos) (eCallX ft lt ct f a) := by
 intro pins s σ H Q I h
 obtain ⟨ρ,ev,S,d,S',hE,hS,hf',kk⟩ := h
 obtain ⟨⟨y,S1⟩,q1,hf'⟩ := bindS hf'
 cases y with
 | fn x =>
   refine fe_callW (ft := ft) (lt := lt) hT hL hr hf ha ht he hpl pins s σ H Q I ⟨ρ,ev,S,d,S',hE,hS,?_,kk⟩
   unfold eCallW
   rw [q1]
   exact hf'
 | lam t =>
   refine fe_callW (ft := ft) (lt := lt) hT hL hr hf ha ht he hpl pins s σ H Q I ⟨ρ,ev,S,d,S',hE,hS,?_,kk⟩
   unfold eCallW
   rw [q1]
   exact hf'
 | clo t kv =>
   rw [ht]
   dsimp only at hf'
   obtain ⟨g,hx,hf'⟩ := bindS hf'
   obtain ⟨⟨ds,S2⟩,q2,hf'⟩ := bindS hf'
   dsimp only at hf'
   split at hf'
   · rename_i hno
     obtain ⟨hno,hlen⟩ := hno
     obtain ⟨ps,F,hb⟩ := (hC t g hx).ex
     refine wpAny_bind (thn (hf pins s σ H (fun v H1 => ∃ ρ1 a0 us,v = .ref a0 ∧ Ext ρ H ρ1 H1 ∧ StOk X.K X.mg ρ1 H1 S1 ∧ CloAt ρ1 H1 t us a0 ∧ RepL X.K X.mg ρ1 H1 kv us) I ⟨ρ,ev,S,_,S1,hE,hS,q1,fun v ρ1 H1 E1 hS1 r1 => ?_⟩) fun u s1 ⟨v,H1,I1,rv,ρ1,a0,us,ev1,E1,hS1,L1,rk⟩ => ?_)
     · unfold Rep at r1
       obtain ⟨b,us,rfl,L,rk⟩ := r1
       exact ⟨ρ1,b,us,rfl,E1,hS1,L,rk⟩
     · subst ev1
       obtain rfl : u = Value.ref a0 := rv
       obtain ⟨n0,c,pm,ctv,cl,nc,hA,hC,hnd,hcs⟩ := L1
       have at_ : ∀ {H' : Hp} {s' : Shared},Inv X pins σ H' s' → H' a0 = some (.ext (cloP t cl a0 c pm ctv)) → FnAt a0 s'.heap := fun J e => ⟨_,_,_,_,(J.hok a0 _ e).1⟩
       refine callWith_F (at_ I1 hA) (thn (ha pos pins s1 σ H1 (fun vs H2 => (H2 a0 = some (.ext (cloP t cl a0 c pm ctv))) ∧ spClo X.K X.mg t a0 c pm ctv cl g vs H2 Q E0) I1 ⟨ρ1,ev,S1,ds,S2,hE.mono E1,hS1,q2,fun vs ρ2 H2 E2 hS2 r2 => ?_⟩) fun us s2 ⟨vs,H2,I2,r,hA2,q2⟩ => ⟨at_ I2 hA2,?_⟩) he hpl
       · have h1 := E2.keep _ _ hA n0
         have h2 := E2.keep _ _ hC nc
         exact ⟨h1,ρ2,ds,S2,d,S',us,kv,r2,hS2,h1,h2,hnd,hcs.mono E2,rk.mono E2,hno,hf',hlen,fun v ρ' H' E' hS' r' => kk v ρ' H' ((E1.trans E2).trans E') hS' r'⟩
       · exact run_fn (ds := []) (dvs := []) (F a0 c pm ctv cl) hr (hb c pm ctv cl) .nil pass0 I2 r (by rw [List.append_nil]; exact q2)
   · cases hf'
 | _ => cases hf'
end
end F
namespace F
open PySem L2 PySem.Spec PySem.Calls PyProof.Rows PySem.W
def capsV (ev : Ev) : List Nat → Option (List D)
 | [] => some []
 | i :: is => match ev[i]? with
   | some (some d) => (capsV ev is).map (d :: ·)
   | _ => none
structure CapsOk (X : Cx) (t : LT) (cl : List (Str × Addr)) (is : List Nat) : Prop where
 clo : closureFor t.scope X.env = pure cl
 names : cl.map (·.1) = t.caps
 look : ∀ p ∈ cl,X.env.cells.lookup p.1 = some p.2
 nd : t.caps.Nodup
 at_ : is.map (fun i => X.N[i]?) = t.caps.map some
 kind : ∀ x ∈ t.caps,X.env.scope.names.lookup x = some .cell
 fn : ∀ x ∈ t.caps,X.fn x = true
def trk (H : Hp) (h : Heap) (cl : List (Str × Addr)) : Hp := onC H (fun b => (h.get? b).map fun o => .frz o (.own 0)) cl
section
variable {X : Cx} {pins : List (Addr × Obj)} {σ : L2.St} {H H' : Hp} {s : Shared} {t : LT} {cl : List (Str × Addr)} {is : List Nat} {ρ : List Addr} {ev : Ev} {S : Sto}
theorem CapsOk.hn (C : CapsOk X t cl is) (I : Inv X pins σ H s) : ∀ b ∈ cl.map (·.2),H b = none := fun b hb => by
 obtain ⟨p,hp,rfl⟩ := List.mem_map.mp hb
 exact I.freeC _ _ (C.look p hp)
theorem CapsOk.isc (C : CapsOk X t cl is) (I : Inv X pins σ H s) : ∀ b ∈ cl.map (·.2),∃ o v,s.heap.get? b = some o ∧ o.data = .cell v := fun b hb => by
 obtain ⟨p,hp,rfl⟩ := List.mem_map.mp hb
 obtain ⟨v,o,h1,h2⟩ := I.cell _ _ (C.look p hp)
 exact ⟨o,v,h1,h2⟩
theorem CapsOk.cin (C : CapsOk X t cl is) (I : Inv X pins σ H s) : CellsIn (trk H s.heap cl) cl := fun b hb => by
 obtain ⟨o,v,h1,_⟩ := C.isc I b hb
 exact ⟨o,by unfold trk; rw [onC_in hb,h1]; rfl⟩
theorem CapsOk.nodup (C : CapsOk X t cl is) (I : Inv X pins σ H s) : (cl.map (·.2)).Nodup := by
 have nd : (cl.map (·.1)).Nodup := C.names ▸ C.nd
 unfold List.Nodup at nd ⊢
 rw [List.pairwise_map] at nd ⊢
 refine nd.imp_of_mem fun {p q} hp hq ne e => ne ?_
 exact I.ok.inj _ _ p.2 (C.look p hp) (by rw [C.look q hq,e])
theorem CapsOk.ext (C : CapsOk X t cl is) (I : Inv X pins σ H s) : Ext ρ H ρ (trk H s.heap cl) :=
 ⟨fun _ _ e => e,fun b o h n => by
   unfold trk
   rw [onC_out (fun z => by rw [C.hn I b z] at h; cases h)]; exact h,fun _ z n => absurd z n⟩
theorem CapsOk.st (C : CapsOk X t cl is) (I : Inv X pins σ H s) (hS : StOk X.K X.mg ρ H S) : StOk X.K X.mg ρ (trk H s.heap cl) S :=
 hS.on (C.hn I)
theorem CapsOk.hok (C : CapsOk X t cl is) (I : Inv X pins σ H s) : HOk X.prog X.w (trk H s.heap cl) s.heap := fun b u e => by
 unfold trk at e
 by_cases z : b ∈ cl.map (·.2)
 · obtain ⟨o,v,h1,_⟩ := C.isc I b z
   rw [onC_in z,h1] at e
   cases e
   exact ⟨h1,⟨o,h1⟩⟩
 · rw [onC_out z] at e
   refine (I.hok b u e).stay (fun _ _ _ q => q) (fun d q => ?_) fun d xs q => ?_
   · unfold trk; rw [onC_out (fun y => by rw [C.hn I d y] at q; cases q)]; exact q
   · unfold trk; rw [onC_out (fun y => by rw [C.hn I d y] at q; cases q)]; exact q
theorem CapsOk.env0 (C : CapsOk X t cl is) (I : Inv X pins σ H s) : Env0 X.prog X.w X.K X.mg X.base X.A X.stack s (trk H s.heap cl) := by
 have e := I.env0
 refine ⟨e.frames,e.mod,fun b o h => ⟨(e.bs b o h).1,?_⟩,e.bsz,e.funs,fun b hb => ?_,C.hok I,e.bare⟩
 · unfold trk
   rw [onC_out]; exact (e.bs b o h).2
   intro z
   obtain ⟨p,hp,rfl⟩ := List.mem_map.mp z
   have := I.ok.cab p.1 p.2 (C.fn _ (C.names ▸ List.mem_map_of_mem hp)) (C.look p hp)
   rw [Heap.get?_none_of_le (Nat.le_trans I.ok.bsz this)] at h
   cases h
 · unfold trk
   rw [onC_out]; exact e.frf b hb
   intro z
   obtain ⟨p,hp,rfl⟩ := List.mem_map.mp z
   rcases List.mem_cons.mp (I.stkSub _ hb) with y | y
   · exact I.cne _ _ (C.look p hp) y
   · obtain ⟨_,o',h3,_⟩ := I.ok.funs.mem y
     have := I.ok.cab p.1 p.2 (C.fn _ (C.names ▸ List.mem_map_of_mem hp)) (C.look p hp)
     exact absurd (Heap.lt_size h3) (Nat.not_lt.mpr this)
theorem cells_trk (C : CapsOk X t cl is) (I : Inv X pins σ H s) (hE : EnvR X.K X.mg ρ H ev σ) (hS : StOk X.K X.mg ρ H S) :
   ∀ (cl' : List (Str × Addr)) (js : List Nat) (vs : List D),(∀ p ∈ cl',p ∈ cl) → js.map (fun i => X.N[i]?) = cl'.map (fun p => some p.1) → capsV ev js = some vs → ∃ us,Cells ρ (trk H s.heap cl) (cl'.map (·.1)) us cl' ∧ RepL X.K X.mg ρ H vs us
 | [],[],vs,_,_,h => by cases h; exact ⟨[],trivial,RepL.nil⟩
 | [],_ :: _,_,_,e,_ => by cases e
 | _ :: _,[],_,_,e,_ => by cases e
 | p :: cl',i :: js,vs,hm,e,h => by
   rw [List.map_cons,List.map_cons] at e
   obtain ⟨e1,e2⟩ := List.cons.inj e
   unfold capsV at h
   split at h
   · rename_i d hd
     obtain ⟨vs',hv,h⟩ := mapS h
     subst h
     obtain ⟨us,c1,r1⟩ := cells_trk C I hE hS cl' js vs' (fun q hq => hm q (List.mem_cons_of_mem _ hq)) e2 hv
     obtain ⟨v,hσ,rd⟩ := hE.at_ i d hd
     obtain ⟨m,hns,hl⟩ := I.loc
     have hp := hm p List.mem_cons_self
     have hpm : p.1 ∈ t.caps := C.names ▸ List.mem_map_of_mem hp
     have kd := C.kind _ hpm
     obtain ⟨u,ru,lk⟩ := hl i p.1 v e1 hσ (.inr (.inl kd))
     have hb : p.2 ∈ cl.map (·.2) := List.mem_map_of_mem hp
     refine ⟨v :: us,⟨rfl,hS.fresh (C.hn I _ hb),?_,c1⟩,RepL.cons rd r1⟩
     rcases lk with ⟨k1,_⟩ | ⟨_,c,z1,o,z2,z3⟩
     · have : X.env.scope.names.lookup p.1 = some .local := k1
       rw [kd] at this; cases this
     · rw [C.look p hp] at z1
       cases z1
       exact ⟨o,u,by unfold trk; rw [onC_in hb,z2]; rfl,z3,ru⟩
   · cases h
theorem un_off {fs : List Addr} {h h' : Heap} (hn : ∀ b ∈ cl.map (·.2),H b = none) (u : Un fs [] (trk H h cl) H' h h') (x : ∀ b ∈ cl.map (·.2),∃ o,h.get? b = some o) (y : ∀ b o w,H' b = some (.frz o w) → h'.get? b = some o) : Un fs [] H (offC H' cl) h h' := by
 have out : ∀ b,b ∉ cl.map (·.2) → trk H h cl b = H b := fun b z => onC_out z
 have kp : ∀ b ∈ cl.map (·.2),∀ o,h.get? b = some o → h'.get? b = some o := fun b hb o e => y b o (.own 0) (u.frzs b o _ (by unfold trk; rw [onC_in hb,e]; rfl))
 have ne : ∀ b v,H b = some v → b ∉ cl.map (·.2) := fun b v e z => by rw [hn b z] at e; cases e
 refine ⟨fun b o e n hb hx => ?_,fun b o e n hb hx => ?_,fun b o e n hx => ?_,u.there,fun b xs e => ?_,fun b o v e => ?_,fun b ps e => ?_⟩
 · by_cases z : b ∈ cl.map (·.2)
   · exact kp b z o e
   · exact u.keep b o e (by rw [out b z]; exact n) hb hx
 · by_cases z : b ∈ cl.map (·.2)
   · exact ⟨o.slots,kp b z o e⟩
   · exact u.slot b o e (by rw [out b z]; exact n) hb hx
 · by_cases z : b ∈ cl.map (·.2)
   · exact offC_in z
   · exact offC_none (u.free b o e (by rw [out b z]; exact n) hx)
 · rw [offC_out (ne b _ e)]; exact u.tups b xs (by rw [out b (ne b _ e)]; exact e)
 · rw [offC_out (ne b _ e)]; exact u.frzs b o v (by rw [out b (ne b _ e)]; exact e)
 · obtain ⟨more,q⟩ := u.tbls b ps (by rw [out b (ne b _ e)]; exact e)
   exact ⟨more,by rw [offC_out (ne b _ e)]; exact q⟩
end
end F
namespace F
open PySem L2 PySem.Spec PyProof.Rows PySem.W
section
variable {X : Cx} {o e lo hi : Expr} {pos pos' p2 : Pos} {f h : E} {u w : Pt}
def sSlSet (f : E) (a b : Pt) (v : E) : C := fun ev S => (v ev S).bind fun p => (f ev p.2).bind fun q => (a ev q.2).bind fun r => (b ev r.2).bind fun t => match p.1,q.1,r.1,t.1 with
 | .lst ys,.obj i,some lo,some hi => (match t.2[i]? with
   | some (.lst ds) => if 0 ≤ lo ∧ lo ≤ hi ∧ hi ≤ ds.length ∧ ds.length + ys.length ≤ sizeLine then some (.nx ev,t.2.set i (.lst (ds.take lo.toNat ++ ys ++ ds.drop hi.toNat))) else none
   | _ => none)
 | _,_,_,_ => none
end
section
variable {X : Cx} {K : Frag} {mg : Str → Option Value} {e o l : Expr} {f g : E} {pos apos spos px pt : Pos} {body : C}
def eClear (f : E) : E := fun ev S => (f ev S).bind fun p => match p.1 with
 | .obj a => (match p.2[a]? with
   | some (.lst _) => some (.non,p.2.set a (.lst []))
   | _ => none)
 | _ => none
def loopO (a i : Nat) (body : C) : Nat → Nat → Ev → Sto → Option (Out × Sto)
 | 0,_,_,_ => none
 | n + 1,j,ev,S => match S[a]? with
   | some (.lst ds) => (match ds[j]? with
     | none => some (.nx ev,S)
     | some d => (body (ev.set i (some d)) S).bind fun p => (match p.1 with
       | .nx e => loopO a i body n (j + 1) e p.2
       | .ct e => loopO a i body n (j + 1) e p.2
       | .bk e => some (.nx e,p.2)
       | .rt x => some (.rt x,p.2)))
   | _ => none
def sForO (i : Nat) (f : E) (body : C) : C := fun ev S => (f ev S).bind fun p => match p.1 with
 | .obj a => (match p.2[a]? with
   | some (.lst ds) => loopO a i body (ds.length + 1) 0 ev p.2
   | _ => none)
 | _ => none
theorem fs_forO (i : Nat) {x : Str} {sb : List Stmt} (hN : X.N.Nodup) (hl : FE X l f) (hb : FSs X sb body) (hp : PassesOwn (model X.prog X.w) X.A X.env X.xe) (hc : X.calm = true := by rfl) (hi : X.N[i]? = some x := by rfl) (hx : Loc X.env.scope x := by first | exact Or.inl rfl | exact Or.inr rfl)
   (hf : X.fn x = true ∨ X.env.scope.names.lookup x = some .local := by first | exact .inl rfl | exact .inr rfl | assumption) (hs : ∀ v,foldedSetIterable l X.env v = pure v := by intro _; rfl) :
   FS X (.For (.Name x px) l sb [] pos) (sForO i f body) :=
 ps_mono (ps_for hp hc (pi_list hl) (pg_name hN hi hx hf) hb hs) fun σ H D h => by
   obtain ⟨ρ,ev,S,o,S',hE,hS,hf,k⟩ := h
   obtain ⟨⟨d,S1⟩,q1,hf⟩ := bindS hf
   cases d with
   | obj a =>
     dsimp only at hf
     split at hf
     · rename_i ds hd
       refine ⟨ρ,ev,S,_,S1,hE,hS,q1,fun v ρ1 H1 E1 hS1 r1 => ?_⟩
       unfold Rep at r1
       obtain ⟨p,rfl,hp⟩ := r1
       obtain ⟨us,hu,ru⟩ := hS1.ob a _ p hd hp
       have k1 := k.ext E1
       refine ⟨p,rfl,⟨us,SqL.of hu⟩,fun j m σ' H' => ∃ ρ' ev' S2,Ext ρ1 H1 ρ' H' ∧ StOk X.K X.mg ρ' H' S2 ∧ EnvR X.K X.mg ρ' H' ev' σ' ∧ loopO a i body m j ev' S2 = some (o,S'),⟨ds.length + 1,ρ1,ev,S1,Ext.refl _ _,hS1,hE.mono E1,hf⟩,?_⟩
       rintro j m σ' H' ⟨ρ',ev',S2,e0,hS2,hE2,hl2⟩
       cases m with
       | zero => cases hl2
       | succ m =>
         unfold loopO at hl2
         split at hl2
         · rename_i ds2 hd2
           obtain ⟨us2,hu2,ru2⟩ := hS2.ob a _ p hd2 (e0.pre _ _ hp)
           split at hl2
           · rename_i hj
             cases hl2
             refine .inl ⟨⟨us2,SqL.of hu2,?_⟩,k1 σ' ρ' H' e0 hS2 hE2⟩
             have := ru2.length
             have := List.getElem?_eq_none_iff.mp hj
             omega
           · rename_i d hj
             obtain ⟨y,ey,ry⟩ := ru2.get hj
             obtain ⟨⟨o1,S3⟩,q3,hl2⟩ := bindS hl2
             refine .inr ⟨⟨us2,y,SqL.of hu2,ey⟩,fun σ3 H3 => ∃ ρ3 ev3 S3,Ext ρ1 H1 ρ3 H3 ∧ StOk X.K X.mg ρ3 H3 S3 ∧ EnvR X.K X.mg ρ3 H3 ev3 σ3 ∧ loopO a i body m (j + 1) ev3 S3 = some (o,S'),fun σ3 H3 z => ⟨m,Nat.lt_succ_self m,z⟩,fun x H3 ⟨eH,hx⟩ => ?_⟩
             subst eH
             have ex := hx us2 (SqL.of hu2)
             rw [ey] at ex
             cases ex
             refine ⟨ρ',_,S2,o1,S3,hE2.set ry i,hS2,q3,?_⟩
             cases o1 with
             | nx e => exact fun σ3 ρ3 H3 E3 hS3 hE4 => ⟨ρ3,e,S3,e0.trans E3,hS3,hE4,hl2⟩
             | ct e => exact fun σ3 ρ3 H3 E3 hS3 hE4 => ⟨ρ3,e,S3,e0.trans E3,hS3,hE4,hl2⟩
             | bk e => cases hl2; exact fun σ3 ρ3 H3 E3 hS3 hE4 => k1 σ3 ρ3 H3 (e0.trans E3) hS3 hE4
             | rt y => cases hl2; exact fun v3 ρ3 H3 E3 hS3 r3 => k1 v3 ρ3 H3 (e0.trans E3) hS3 r3
         · cases hl2
     · cases hf
   | _ => cases hf
end
end F
namespace F
open PySem L2 PySem.Spec PySem.Calls PyProof.Rows PySem.W
open Classical in
noncomputable def eCallD (g : G) (a : As) (q : Nat) (t : LT) (cl : List (Str × Addr)) (is : List Nat) : E := fun ev S => (a ev S).bind fun p => match ev[q]? with
 | some (some (.lam t')) => if t' = { t with cl := cl } then (capsV ev is).bind fun vs => (g (p.1 ++ [.clo t vs]) p.2).bind fun r => if (noC r.1 && noCS r.2) = true then some r else none else none
 | _ => none
def tAsD (K : Frag) (mg : Str → Option Value) (q : Nat) (t : LT) (cl : List (Str × Addr)) (f : As) : TA := fun σ H Q => ∃ ρ ev S ds S',EnvR K mg ρ H ev σ ∧ StOk K mg ρ H S ∧ f ev S = some (ds,S') ∧ ev[q]? = some (some (.lam { t with cl := cl })) ∧
 ∀ vs a c pm ct ρ' H',Ext ρ H ρ' H' → StOk K mg ρ' H' S' → RepL K mg ρ' H' ds vs → a ∉ ρ' → c ∉ ρ' → H' a = some (.ext (cloP t cl a c pm ct)) → H' c = some (.ext (codeP c t.qual)) → Q (vs ++ [.ref a]) H'
def FAD (X : Cx) (es : List Expr) (q : Nat) (t : LT) (cl : List (Str × Addr)) (f : As) : Prop := PA X es (tAsD X.K X.mg q t cl f)
section
variable {X : Cx} {t : LT} {cl : List (Str × Addr)} {q : Nat}
theorem fad_last {e : Expr} (h : FE X e (eV q)) (hs : starEach [e] X.env = [(false,eval e X.env)] := by exact star_cons rfl) : FAD X [e] q t cl aN :=
 pa_mono (pa_cons h pa_nil hs) fun σ H Q h => by
   obtain ⟨ρ,ev,S,ds,S',hE,hS,hf,hj,k⟩ := h
   cases hf
   refine ⟨ρ,ev,S,.lam { t with cl := cl },S,hE,hS,by simp [eV,hj],fun v ρ1 H1 E1 hS1 r1 => ?_⟩
   unfold Rep at r1
   obtain ⟨a,rfl,n1,c,pm,ct,n2,h1,h2⟩ := r1
   exact k [] a c pm ct ρ1 H1 E1 hS1 RepL.nil n1 n2 h1 h2
theorem fad_cons {e : Expr} {es : List Expr} {f : E} {g : As} (ha : FE X e f) (hr : FAD X es q t cl g) (hs : starEach (e :: es) X.env = (false,eval e X.env) :: starEach es X.env := by exact star_cons rfl) : FAD X (e :: es) q t cl (aC f g) :=
 pa_mono (pa_cons ha hr hs) fun σ H Q h => by
   obtain ⟨ρ,ev,S,d,S',hE,hS,hf,hj,k⟩ := h
   obtain ⟨⟨x,S1⟩,q1,hf⟩ := bindS hf
   obtain ⟨⟨y,S2⟩,q2,hf⟩ := bindS hf
   cases hf
   refine ⟨ρ,ev,S,x,S1,hE,hS,q1,fun v ρ1 H1 E1 hS1 r1 => ⟨ρ1,ev,S1,y,_,hE.mono E1,hS1,q2,hj,fun vs a c pm ct ρ2 H2 E2 hS2 r2 n1 n2 h1 h2 => ?_⟩⟩
   exact k (v :: vs) a c pm ct ρ2 H2 (E1.trans E2) hS2 (RepL.cons (r1.mono E2) r2) n1 n2 h1 h2
end
section
variable {X : Cx} {k q : Nat} {x : Str} {g : G} {a : As} {t : LT} {cl : List (Str × Addr)} {is : List Nat} {e : Expr} {es : List Expr} {p pos : Pos}
theorem fe_callD (cal : Cal X.prog X.w X.K X.mg X.base k x g) (C : CapsOk X t cl is) (hr : Room k X.A) (ha : FAD X (e :: es) q t cl a) (hg : Gl X x := by rfl) (hdb : (x == ("__debug__" : Str)) = false := by decide)
   (he : starEach (e :: es) X.env = (false,eval e X.env) :: starEach es X.env := by exact star_cons rfl) (hpl : (backTo pos (starEach es X.env)).any (·.1) = false := by exact back_any rfl) :
   FE X (.Call (.Name x p) (e :: es) [] pos) (eCallD g a q t cl is) := by
 obtain ⟨f,fd,ps,ds,dvs,dds,gg,F,hm,hk,hb,hd,hdd,hgg⟩ := cal.ex
 intro pins s σ H Q I h
 obtain ⟨ρ,ev,S,d,S',hE,hS,hf,kk⟩ := h
 unfold eCallD at hf
 obtain ⟨⟨as,S1⟩,q1,hf0⟩ := bindS hf
 clear hf
 dsimp only at hf0
 split at hf0
 · rename_i t' hj
   split at hf0
   · rename_i hyu
     subst hyu
     obtain ⟨kv,q2,hf⟩ := bindS hf0
     obtain ⟨⟨d1,S2⟩,q3,hf⟩ := bindS hf
     dsimp only at hf
     split at hf
     · rename_i hno
       cases hf
       rw [Bool.and_eq_true] at hno
       obtain ⟨n1,n2⟩ := hno
       refine wpAny_Call_Name_kw (ld_glob I hg hm ?_ hdb)
       refine PySem.W.callWith_K (h₀ := X.base) I.ok.mod.kin hk (thn (ha pos pins s σ H (fun vs H1 => ∃ ws a c pm ct ρ1,vs = ws ++ [.ref a] ∧ Ext ρ H ρ1 H1 ∧ StOk X.K X.mg ρ1 H1 S1 ∧ RepL X.K X.mg ρ1 H1 as ws ∧ a ∉ ρ1 ∧ c ∉ ρ1 ∧ H1 a = some (.ext (cloP t cl a c pm ct)) ∧ H1 c = some (.ext (codeP c t.qual))) I ⟨ρ,ev,S,as,S1,hE,hS,q1,hj,fun vs a c pm ct ρ1 H1 E1 hS1 r1 m1 m2 m3 m4 => ⟨vs,a,c,pm,ct,ρ1,rfl,E1,hS1,r1,m1,m2,m3,m4⟩⟩) fun us s1 ⟨vs,H1,I1,r,ws,a',c,pm,ct,ρ1,ev1,E1,hS1,r1,m1,m2,m3,m4⟩ => ⟨I1.kIn,?_⟩) he hpl
       subst ev1
       have E2 := C.ext (ρ := ρ1) I1
       have hS2 := C.st I1 hS1
       obtain ⟨cs,hcs,rk⟩ := cells_trk C I1 (hE.mono E1) hS1 cl is kv (fun _ h => h) (by
         rw [C.at_,← C.names,List.map_map]; rfl) q2
       rw [C.names] at hcs
       have rc : Rep X.K X.mg ρ1 (trk H1 s1.heap cl) (.clo t kv) (.ref a') := by
         unfold Rep
         exact ⟨a',cs,rfl,⟨m1,c,pm,ct,cl,m2,E2.keep _ _ m3 m1,E2.keep _ _ m4 m2,C.nodup I1,hcs⟩,rk.mono E2⟩
       have cin := C.cin I1
       have hsp : spG X.K X.mg gg ((ws ++ [.ref a']) ++ dvs) (trk H1 s1.heap cl) (fun v H' => CellsIn H' cl → Q v (offC H' cl)) E0 :=
         ⟨ρ1,(as ++ [.clo t kv]) ++ dds,S1,d,S',((r1.mono E2).append (RepL.cons rc RepL.nil)).append (hdd _ _),hS2,hgg _ _ _ q3,fun v ρ' H' E' hS' r' ci => by
           refine kk v ρ' (offC H' cl) (E1.trans ⟨E'.pre,fun b o hb nb => ?_,fun b hb nb => ?_⟩) (hS'.off ci n2) (r'.off ci n1)
           · have z : b ∉ cl.map (·.2) := fun z => by rw [C.hn I1 b z] at hb; cases hb
             rw [offC_out z]
             exact E'.keep b o (E2.keep b o hb nb) nb
           · have := E'.new b hb nb
             by_cases z : b ∈ cl.map (·.2)
             · exact C.hn I1 b z
             · unfold trk at this; rw [onC_out z] at this; exact this⟩
       have r2 : Vals ((ws ++ [.ref a']) ++ dvs) (us ++ ds) := r.append hd
       have hl : (us ++ ds).length = ps.length := by rw [← r2.length]; exact F.len _ _ _ _ hsp
       refine wpAny_call (codeAny_mono (F.run X.A X.stack s1 (trk H1 s1.heap cl) ⟨us,[]⟩ (us ++ ds) _ _ E0 hr (C.env0 I1) (hb s1 us I1.kIn hl) r2 hsp) fun r s' hq => ?_)
       cases r with
       | error e => exact hq.elim
       | ok fl =>
         cases fl with
         | ret u =>
           obtain ⟨v,H',os,bare,un,hok,rv,q⟩ := hq
           have ci : CellsIn H' cl := fun b hb => let ⟨o,z⟩ := cin b hb; ⟨o,un.frzs b o _ z⟩
           obtain ⟨hh,gn,dr,tt,os'⟩ := s'
           obtain rfl : os' = s1.os := os
           refine ⟨v,offC H' cl,I1.call (h' := hh) (g' := gn) (d' := dr) (t' := tt) (ch := []) (un_off (C.hn I1) un (fun b hb => let ⟨o,_,z,_⟩ := C.isc I1 b hb; ⟨o,z⟩) (fun b o w z => (hok b _ z).1)) (hok_off hok ci) bare (fun b z => absurd z (by simp)),rv,q ci⟩
         | next => exact False.elim hq
         | brk => exact False.elim hq
         | cont => exact False.elim hq
     · cases hf
   · cases hf0
 · cases hf0
end
def spA (K : Frag) (mg : Str → Option Value) (gs : List (Str × Addr) → G) : Sp := fun vs H Q E => ∀ cl,spG K mg (gs cl) vs H Q E
open Classical in
noncomputable def gA (gs : List (Str × Addr) → G) : G := fun ds S => if h : ∃ r,∀ cl,gs cl ds S = some r then some h.choose else none
theorem gA_of {gs : List (Str × Addr) → G} {ds : List D} {S : Sto} {r : D × Sto} (h : ∀ cl,gs cl ds S = some r) : gA gs ds S = some r := by
 have e : ∃ r,∀ cl,gs cl ds S = some r := ⟨r,h⟩
 unfold gA
 rw [dif_pos e]
 exact (e.choose_spec []).symm.trans (h [])
theorem of_gA {gs : List (Str × Addr) → G} {ds : List D} {S : Sto} {r : D × Sto} (h : gA gs ds S = some r) (cl : List (Str × Addr)) : gs cl ds S = some r := by
 unfold gA at h
 split at h
 · rename_i e
   cases h
   exact e.choose_spec cl
 · cases h
theorem spA_of {K : Frag} {mg : Str → Option Value} {gs : List (Str × Addr) → G} {vs : List V} {H : Hp} {Q : VK} {E : XK} (h : spG K mg (gA gs) vs H Q E) : spA K mg gs vs H Q E := fun cl => by
 obtain ⟨ρ,ds,S,d,S',r,hS,hf,k⟩ := h
 exact ⟨ρ,ds,S,d,S',r,hS,of_gA hf cl,k⟩
section
variable {P : Program} {w : World} {K : Frag} {mg : Str → Option Value} {base : Heap} {x qual : Str} {st : Stmt} {N ps : List Str} {k : Nat} {b : List (Str × Addr) → C} {dV : Value} {f : Addr} {fd : FuncData}
theorem FunD.okA (F : FunD K x qual st f fd dV) {y : Str} (hm : mg y = some (.ref f)) (S : FnScope N ps (defScope st))
   (hbody : ∀ (cdv : Value),CodeOf K mg y cdv → ∀ (A : Around) (outer : List Env) (s : Shared) (H : Hp) (E : XK),Room k (A.deeper (envOfC qual (defScope st) s.heap.objs.size f cdv)) →
     ∃ cl,FSs (cxOf CX0 P w K mg base N qual (defScope st) f cdv A outer s H E).nox (defBody st) (b cl)) : FnOk P w K mg base CX0 (k + 1) f fd ps (spG K mg (gA fun cl => bodyF N.length ps.length (b cl))) := by
 have co := F.code hm
 obtain ⟨oc,od,kV,doc,pm,an,cdv,ct,osl,rfl,lk,hcd⟩ := F.ex
 refine fn_of lk hcd S (fun vs H Q E h => ?_) fun A outer s H vs Q E hr hsp => ?_
 · obtain ⟨ρ,ds,S,d,S',r,hS,hf,k⟩ := h
   rw [← r.length]; exact bodyF_len (of_gA hf [])
 · obtain ⟨cl,hb⟩ := hbody cdv co A outer s H E hr
   exact ⟨_,hb.nox,body_ok (spA_of hsp cl)⟩
end
section
variable {X : Cx} {st : Stmt} {c1 c2 : C} {p : Ev → Sto → Bool}
def isLst (f : E) : Ev → Sto → Bool := fun ev S => match f ev S with
 | some (.lst _,_) => true
 | _ => false
def sAlt (p : Ev → Sto → Bool) (c1 c2 : C) : C := fun ev S => if p ev S = true then c1 ev S else c2 ev S
theorem fs_alt (p : Ev → Sto → Bool) (h1 : FS X st c1) (h2 : FS X st c2) : FS X st (sAlt p c1 c2) := by
 intro pins s σ H Q I h
 obtain ⟨ρ,ev,S,o,S',hE,hS,hf,k⟩ := h
 unfold sAlt at hf
 split at hf
 · exact h1 pins s σ H Q I ⟨ρ,ev,S,o,S',hE,hS,hf,k⟩
 · exact h2 pins s σ H Q I ⟨ρ,ev,S,o,S',hE,hS,hf,k⟩
end
end F
set_option maxHeartbeats 4000000
namespace F
open PySem L2 PySem.Spec PyProof.Rows
def lexK : List V → List V → Option Bool
 | [],[] => some false
 | [],_ :: _ => some true
 | _ :: _,[] => some false
 | .int x :: xs,.int y :: ys => if x = y then lexK xs ys else some (decide (x < y))
 | .str x :: xs,.str y :: ys => if x = y then lexK xs ys else some (decide (x.cps.toList < y.cps.toList))
 | _ :: _,_ :: _ => none
inductive FlatAre : List Value → List V → Prop
 | nil : FlatAre [] []
 | int (a : Int) (t : Tok) {vs : List Value} {ns : List V} : FlatAre vs ns → FlatAre (.int a t :: vs) (.int a :: ns)
 | str (a : Str) (t : Tok) {vs : List Value} {ns : List V} : FlatAre vs ns → FlatAre (.str a t :: vs) (.str a :: ns)
theorem FlatAre.length {vs : List Value} {ns : List V} (h : FlatAre vs ns) : vs.length = ns.length := by
 induction h with
 | nil => rfl
 | int _ _ _ ih => rw [List.length_cons,List.length_cons,ih]
 | str _ _ _ ih => rw [List.length_cons,List.length_cons,ih]
theorem eqAt_str (A : Around) (s : Shared) (a : Str) (t : Tok) (c : Str) (u : Tok) : ∃ e,SeqAt.EqAt A s (.str a t) (.str c u) e ∧ (e = true ↔ a = c) :=
 ⟨(a == c),SeqAt.EqAt.str_str a t c u,by simp⟩
theorem rcLt_str (A : Around) (s : Shared) (a : Str) (t : Tok) (c : Str) (u : Tok) (prog : Program) (w : World) (E : Value → Shared → Prop) (Q : Value → Shared → Prop) (h : Q (.bool (decide (a.cps.toList < c.cps.toList))) s) :
   wpAny (model prog w) A (richCompare .Lt (.str a t) (.str c u)) Q E s :=
 (PyProof.Rows.lt_str h : wpAny (model prog w) A (compareOp .Lt (.str a t) (.str c u)) Q E s)
section
open PySem.SeqAt
open PySem.AutoSeq1 (wpAny_loadPart')
open PySem.MeetsSeq PySem.MeetsSeq2 PySem.MeetsSeq3

theorem tuple_lt_flat (l b : Addr) (items items2 : Array Value) (n n2 : Nat) (dd dd2 : Option Addr) (sl sl2 : Array (Option Value)) (ns ms : List V) (res : Bool) (hres : lexK ns ms = some res) (hi : FlatAre items.toList ns) (hj : FlatAre items2.toList ms) :
   Meets (Builtin.«tuple.__lt__» ⟨[.ref l,.ref b],[]⟩)
     (fun _ R s => s.heap.get? l = some { cls := .type "tuple",dict := dd,data := .seq items n,slots := sl } ∧ s.heap.get? b = some { cls := .type "tuple",dict := dd2,data := .seq items2 n2,slots := sl2 } ∧
       R (.ok (.ret (.bool res))) s) :=
 .of_wp fun prog w A R s h => by
   obtain ⟨hp,g,d,tk,os⟩ := s; obtain ⟨hl,hb,h⟩ := h
   have f2 := AutoSeq1.sub_tuple_tuple
   have z1 : items.size = ns.length := by rw [← hi.length]; simp
   have z2 : items2.size = ms.length := by rw [← hj.length]; simp
   wp_walk using wpAny_loadPart' hl,wpAny_loadPart' hb,wpAny_forIn_list _ (fun rest b s' => b.1 = none ∧ s' = ⟨hp,g,d,tk,os⟩ ∧ ∃ (vs ws : List Value) (ns' ms' : List V) (r : Bool),rest = vs.zip ws ∧
     FlatAre vs ns' ∧ FlatAre ws ms' ∧ ns'.length + items2.size = ms'.length + items.size ∧ lexK ns' ms' = some r ∧ R (.ok (.ret (.bool r))) ⟨hp,g,d,tk,os⟩) _
   case turn =>
     rintro ⟨y,x⟩ rest b s' ⟨hb',rfl,vs,ws,ns',ms',r,hz,hvi,hwi,hlen,hl,hR⟩
     cases hvi with
     | nil => rw [List.zip_nil_left] at hz; cases hz
     | int a t hvi' =>
       cases hwi with
       | nil => rw [List.zip_nil_right] at hz; cases hz
       | str c u hwi' => cases hl
       | int c u hwi' =>
         rw [List.zip_cons_cons] at hz
         injection hz with hyx hrest
         injection hyx with hy hx
         subst hy hx
         simp only [lexK] at hl
         simp only [List.length_cons] at hlen
         obtain ⟨e,he,hiff⟩ := HT.eqAt_int A.in1 ⟨hp,g,d,tk,os⟩ a t c u
         refine wpAny_bind (he prog w _ _ ?_)
         cases e with
         | true =>
           rw [if_pos (hiff.mp rfl)] at hl
           wp_walk
           exact ⟨rfl,rfl,_,_,_,_,_,hrest,hvi',hwi',by omega,hl,hR⟩
         | false =>
           rw [if_neg (fun q => absurd (hiff.mpr q) Bool.false_ne_true)] at hl
           cases hl
           have hri := HT.rcLt_int A.in1 ⟨hp,g,d,tk,os⟩ a t c u prog w
           wp_walk using hri
           exact ⟨_,rfl,by simpa using hR⟩
     | str a t hvi' =>
       cases hwi with
       | nil => rw [List.zip_nil_right] at hz; cases hz
       | int c u hwi' => cases hl
       | str c u hwi' =>
         rw [List.zip_cons_cons] at hz
         injection hz with hyx hrest
         injection hyx with hy hx
         subst hy hx
         simp only [lexK] at hl
         simp only [List.length_cons] at hlen
         obtain ⟨e,he,hiff⟩ := eqAt_str A.in1 ⟨hp,g,d,tk,os⟩ a t c u
         refine wpAny_bind (he prog w _ _ ?_)
         cases e with
         | true =>
           rw [if_pos (hiff.mp rfl)] at hl
           wp_walk
           exact ⟨rfl,rfl,_,_,_,_,_,hrest,hvi',hwi',by omega,hl,hR⟩
         | false =>
           rw [if_neg (fun q => absurd (hiff.mpr q) Bool.false_ne_true)] at hl
           cases hl
           have hri := rcLt_str A.in1 ⟨hp,g,d,tk,os⟩ a t c u prog w
           wp_walk using hri
           exact ⟨_,rfl,by simpa using hR⟩
   case fin =>
     rintro ⟨b1,b2⟩ s' ⟨hb',rfl,vs,ws,ns',ms',r,hz,hvi,hwi,hlen,hl,hR⟩
     simp only at hb'
     subst hb'
     have hv : r = decide (items.size < items2.size) := by
       cases hvi with
       | nil =>
         cases hwi with
         | nil => cases hl; simp only [List.length_nil] at hlen; exact (decide_eq_false (by omega)).symm
         | int c u hw => cases hl; simp only [List.length_nil,List.length_cons] at hlen; exact (decide_eq_true (by omega)).symm
         | str c u hw => cases hl; simp only [List.length_nil,List.length_cons] at hlen; exact (decide_eq_true (by omega)).symm
       | int a t hv =>
         cases hwi with
         | nil => cases hl; simp only [List.length_nil,List.length_cons] at hlen; exact (decide_eq_false (by omega)).symm
         | int c u hw => rw [List.zip_cons_cons] at hz; cases hz
         | str c u hw => rw [List.zip_cons_cons] at hz; cases hz
       | str a t hv =>
         cases hwi with
         | nil => cases hl; simp only [List.length_nil,List.length_cons] at hlen; exact (decide_eq_false (by omega)).symm
         | int c u hw => rw [List.zip_cons_cons] at hz; cases hz
         | str c u hw => rw [List.zip_cons_cons] at hz; cases hz
     rw [hv] at hR
     wp_walk
     exact ⟨_,rfl,by simpa [Builtin.Tuple.tupleCompareSizes] using hR⟩
   case h =>
     exact ⟨rfl,rfl,items.toList,items2.toList,ns,ms,_,rfl,hi,hj,by omega,hres,h⟩
end
section
variable {prog : Program} {w : World} {A : Around} {E : Value → Shared → Prop} {s : Shared}

theorem lt_tupFlat {l b : Addr} {items items2 : Array Value} {ns ms : List V} {res : Bool} {Q : Value → Shared → Prop} (hl : IsTup s.heap l items) (hb : IsTup s.heap b items2) (hres : lexK ns ms = some res) (hi : FlatAre items.toList ns) (hj : FlatAre items2.toList ms)
   (hu : A.units < cLine) (h : Q (.bool res) s) : wpAny (model prog w) A (compareOp .Lt (.ref l) (.ref b)) Q E s := by
 obtain ⟨⟨cls,dd,data,sl⟩,ho,hc,n,hd⟩ := id hl
 obtain ⟨⟨cls2,dd2,data2,sl2⟩,ho2,hc2,n2,hd2⟩ := id hb
 simp only at hc hd hc2 hd2
 subst hc hd hc2 hd2
 exact richCompare_meets_room (op := .Lt) ⟨_,ho,rfl⟩ ⟨_,ho2,rfl⟩ PySem.F.slot_tuple_lt PySem.F.entry_tuple_lt (PySem.F.args_tuple_lt_2 _ _) (tuple_lt_flat l b items items2 n n2 dd dd2 sl sl2 ns ms res hres hi hj)
   ⟨ho,ho2,show Value.bool res ≠ Value.notImplemented ∧ Q (.bool res) s from ⟨(fun x => nomatch x),h⟩⟩ hu
end
def flatIt : D → Option V
 | .int i => some (.int i)
 | .str z => some (.str z)
 | _ => none
def flatIts : List D → Option (List V)
 | [] => some []
 | d :: ds => (flatIt d).bind fun x => (flatIts ds).map (x :: ·)
def opLtK : D → D → Option D
 | .int i,.int j => some (.bl (decide (i < j)))
 | .str x,.str y => some (.bl (decide (x.cps.toList < y.cps.toList)))
 | .tup a,.tup b => (flatIts a).bind fun x => (flatIts b).bind fun y => (lexK x y).map .bl
 | _,_ => none
section
variable {X : Cx} {K : PySem.W.Frag} {mg : Str → Option Value}
def rLtK (K : PySem.W.Frag) : R2 := fun x y H Q => (∃ i j,x = .int i ∧ y = .int j ∧ Q (.bl (decide (i < j))) H) ∨ (∃ i j,x = .str i ∧ y = .str j ∧ Q (.bl (decide (i.cps.toList < j.cps.toList))) H) ∨
 ∃ a b xs ys us vs r,x = .ref a ∧ y = .ref b ∧ SqT K H a xs ∧ SqT K H b ys ∧ xs = us ∧ ys = vs ∧ (∀ z ∈ us,(∃ i,z = .int i) ∨ ∃ i,z = .str i) ∧ (∀ z ∈ vs,(∃ i,z = .int i) ∨ ∃ i,z = .str i) ∧ lexK us vs = some r ∧ Q (.bl r) H
theorem flat_of {xs : List V} {its : List Value} (h : ∀ z ∈ xs,(∃ i,z = .int i) ∨ ∃ i,z = .str i) (r : Vals xs its) : FlatAre its xs := by
 induction r with
 | nil => exact .nil
 | cons p q ih =>
   have := ih fun z hz => h z (List.mem_cons_of_mem _ hz)
   rcases h _ (List.mem_cons_self ..) with ⟨i,rfl⟩ | ⟨i,rfl⟩
   · obtain ⟨t,rfl⟩ := p
     exact .int _ _ this
   · obtain ⟨t,rfl⟩ := p
     exact .str _ _ this
theorem op_ltK (hu : X.A.units < cLine) : OpR X (compareOp .Lt) (rLtK X.K) := by
 intro pins s σ H x y v u Q I rx ry h
 rcases h with ⟨i,j,rfl,rfl,q⟩ | ⟨i,j,rfl,rfl,q⟩ | ⟨a,b,xs,ys,us,vs,r,rfl,rfl,ha,hb,rfl,rfl,h1,h2,hl,q⟩
 · exact op_lt pins s σ H _ _ v u Q I rx ry ⟨i,j,rfl,rfl,q⟩
 · exact op_lt_str pins s σ H _ _ v u Q I rx ry ⟨i,j,rfl,rfl,q⟩
 · cases rx
   cases ry
   obtain ⟨its,r1,p1,_⟩ := I.tuple ha
   obtain ⟨its2,r2,p2,_⟩ := I.tuple hb
   exact lt_tupFlat p1 p2 hl (flat_of h1 (by simpa using r1)) (flat_of h2 (by simpa using r2)) hu ⟨.bl r,H,I,rfl,q⟩
theorem flatIts_rep {ρ H} : ∀ {ds : List D} {xs vs : List V},flatIts ds = some xs → RepL K mg ρ H ds vs → vs = xs ∧ ∀ z ∈ xs,(∃ i,z = .int i) ∨ ∃ i,z = .str i
 | [],_,_,e,r => by
   cases e
   unfold RepL at r
   exact ⟨r,fun z hz => by cases hz⟩
 | d :: ds,_,_,e,r => by
   unfold RepL at r
   obtain ⟨v,r',rfl,r1,r2⟩ := r
   obtain ⟨x,q1,e⟩ := bindS e
   obtain ⟨xs,q2,e⟩ := mapS e
   subst e
   obtain ⟨rfl,f2⟩ := flatIts_rep q2 r2
   cases d with
   | int i =>
     cases q1
     cases (show v = .int i from r1)
     exact ⟨rfl,fun z hz => (List.mem_cons.mp hz).elim (fun e => .inl ⟨i,e⟩) (f2 z)⟩
   | str i =>
     cases q1
     cases (show v = .str i from r1)
     exact ⟨rfl,fun z hz => (List.mem_cons.mp hz).elim (fun e => .inr ⟨i,e⟩) (f2 z)⟩
   | _ => cases q1
theorem snd_ltK : Snd2 K mg (rLtK K) (fun _ => opLtK) := by
 intro ρ H S x y dx dy d Q hS rx ry e k
 dsimp only at e
 unfold opLtK at e
 split at e
 · cases e
   cases (show x = .int _ from rx)
   cases (show y = .int _ from ry)
   exact .inl ⟨_,_,rfl,rfl,k _ H (Ext.refl _ _) hS rfl⟩
 · cases e
   cases (show x = .str _ from rx)
   cases (show y = .str _ from ry)
   exact .inr (.inl ⟨_,_,rfl,rfl,k _ H (Ext.refl _ _) hS rfl⟩)
 · obtain ⟨xs,q1,e⟩ := bindS e
   obtain ⟨ys,q2,e⟩ := bindS e
   obtain ⟨r,q3,e⟩ := mapS e
   subst e
   obtain ⟨p,vs,rfl,t,r1⟩ := rx.refT
   obtain ⟨p2,vs2,rfl,t2,r2⟩ := ry.refT
   obtain ⟨rfl,f1⟩ := flatIts_rep q1 r1
   obtain ⟨rfl,f2⟩ := flatIts_rep q2 r2
   exact .inr (.inr ⟨p,p2,_,_,_,_,r,rfl,rfl,t.sq,t2.sq,rfl,rfl,f1,f2,q3,k _ H (Ext.refl _ _) hS rfl⟩)
 · cases e
theorem fe_ltK {a b : Expr} {f g : E} {pos : Pos} {k : Nat} (hr : Room k X.A) (ha : FE X a f) (hb : FE X b g) (hm : behindInMarks .Lt b = false := by exact nomark _) : FE X (.Compare a [.Lt] [b] pos) (e2 opLtK f g) := fe_cmp (op_ltK (by have := hr.un; omega)) snd_ltK ha hb hm
end
end F
set_option maxHeartbeats 2000000
namespace Mt
open PySem L2 F
def isI : D → Option Int
 | .int i => some i
 | _ => none
def isS : D → Option Str
 | .str i => some i
 | _ => none
def isP : D → Option (Int × Int)
 | .tup [.int a,.int b] => some (a,b)
 | _ => none
def ad (k : Nat) (x y : D) : D := match k with
 | 1 => (match isI x,isI y with | some i,some j => .int (i + j) | _,_ => .non)
 | 2 => (match isS x,isS y with | some i,some j => .str (i ++ j) | _,_ => .non)
 | 3 => (match isP x,isP y with | some p,some q => .tup [.int (p.1 * q.1 % 1000003),.int ((p.2 * q.1 + q.2) % 1000003)] | _,_ => .non)
 | 4 => (match isI x,isI y with | some i,some j => .int (if j > i then j else i) | _,_ => .non)
 | _ => .non
theorem str_assoc (a b c : Str) : a ++ b ++ c = a ++ (b ++ c) := by
 show Str.mk ((a.cps ++ b.cps) ++ c.cps) = Str.mk (a.cps ++ (b.cps ++ c.cps))
 rw [Array.append_assoc]
theorem str_len (a b : Str) : (a ++ b).length = a.length + b.length := strLen_append a b
theorem ad1 (x y : D) : ad 1 x y = match isI x,isI y with | some i,some j => .int (i + j) | _,_ => .non := rfl
theorem ad2 (x y : D) : ad 2 x y = match isS x,isS y with | some i,some j => .str (i ++ j) | _,_ => .non := rfl
theorem ad4 (x y : D) : ad 4 x y = match isI x,isI y with | some i,some j => .int (if j > i then j else i) | _,_ => .non := rfl
theorem ad3 (x y : D) : ad 3 x y = match isP x,isP y with | some p,some q => .tup [.int (p.1 * q.1 % 1000003),.int ((p.2 * q.1 + q.2) % 1000003)] | _,_ => .non := rfl
theorem mm (a b m : Int) : (a % m * b) % m = a * b % m := by rw [Int.mul_emod,Int.emod_emod_of_dvd _ (Int.dvd_refl m),← Int.mul_emod]
theorem mm' (a b m : Int) : (b * (a % m)) % m = b * a % m := by rw [Int.mul_comm,mm,Int.mul_comm]
theorem am (a b m : Int) : (a % m + b) % m = (a + b) % m := by rw [Int.add_emod,Int.emod_emod_of_dvd _ (Int.dvd_refl m),← Int.add_emod]
theorem ad_assoc (k : Nat) (x y z : D) : ad k (ad k x y) z = ad k x (ad k y z) := by
 match k with
 | 0 => rfl
 | 1 =>
   simp only [ad1]
   cases h1 : isI x <;> cases h2 : isI y <;> cases h3 : isI z <;> simp [isI,Int.add_assoc]
 | 2 =>
   simp only [ad2]
   cases h1 : isS x <;> cases h2 : isS y <;> cases h3 : isS z <;> simp [isS,str_assoc]
 | 3 =>
   simp only [ad3]
   cases h1 : isP x <;> cases h2 : isP y <;> cases h3 : isP z <;> simp [isP]
   rename_i p q r
   constructor
   · rw [mm,mm',Int.mul_assoc]
   · rw [← am (_ * _) _ 1000003,mm,← am (p.snd * _) _ 1000003,mm',am,am]
     congr 1
     rw [Int.add_mul,Int.mul_assoc,Int.add_assoc]
 | 4 =>
   simp only [ad4]
   cases h1 : isI x <;> cases h2 : isI y <;> cases h3 : isI z <;> simp [isI]
   repeat' split
   all_goals omega
 | n + 5 => rfl
def sumD (k : Nat) : List D → D
 | [] => .non
 | t :: r => if k = 0 then .non else r.foldl (ad k) t
theorem sumD_zero (ts : List D) : sumD 0 ts = .non := by cases ts <;> rfl
theorem fold_ad (k : Nat) (a : D) : ∀ (r : List D) (b : D),r.foldl (ad k) (ad k a b) = ad k a (r.foldl (ad k) b)
 | [],_ => rfl
 | c :: r,b => by
   show r.foldl (ad k) (ad k (ad k a b) c) = ad k a (r.foldl (ad k) (ad k b c))
   rw [ad_assoc,fold_ad k a r]
theorem sumD_append {k : Nat} (hk : k ≠ 0) {xs ys : List D} (hx : xs ≠ []) (hy : ys ≠ []) : sumD k (xs ++ ys) = ad k (sumD k xs) (sumD k ys) := by
 cases xs with
 | nil => exact absurd rfl hx
 | cons x xs =>
   cases ys with
   | nil => exact absurd rfl hy
   | cons y ys =>
     show (if k = 0 then D.non else (xs ++ y :: ys).foldl (ad k) x) = ad k (if k = 0 then D.non else xs.foldl (ad k) x) (if k = 0 then D.non else ys.foldl (ad k) y)
     rw [if_neg hk,if_neg hk,if_neg hk,List.foldl_append,List.foldl_cons,fold_ad]
theorem sumD_one {k : Nat} (hk : k ≠ 0) (t : D) : sumD k [t] = t := by show (if k = 0 then D.non else t) = t; rw [if_neg hk]
def Th (k n : Nat) (d : D) : Prop := match k with
 | 1 => ∃ i,d = .int i
 | 2 => ∃ z,d = .str z ∧ z.length ≤ 8 * n
 | 3 => ∃ a b,d = .tup [.int a,.int b] ∧ 0 ≤ a ∧ a < 1000003 ∧ 0 ≤ b ∧ b < 1000003
 | 4 => ∃ i,d = .int i
 | _ => False
def Thing (k : Nat) (d : D) : Prop := match k with
 | 0 => (∃ i,d = .int i) ∨ ∃ z,d = .str z ∧ z.length ≤ 8
 | k => Th k 1 d
theorem Th.ad {k n m : Nat} {x y : D} (hx : Th k n x) (hy : Th k m y) : Th k (n + m) (ad k x y) := by
 match k,hx,hy with
 | 0,h,_ => exact h.elim
 | 1,⟨i,e⟩,⟨j,e'⟩ => subst e e'; exact ⟨_,rfl⟩
 | 2,⟨i,e,h⟩,⟨j,e',h'⟩ => subst e e'; exact ⟨_,rfl,by rw [str_len]; omega⟩
 | 3,⟨a,b,e,h⟩,⟨c,d,e',h'⟩ =>
   subst e e'
   exact ⟨_,_,rfl,Int.emod_nonneg _ (by decide),Int.emod_lt_of_pos _ (by decide),Int.emod_nonneg _ (by decide),Int.emod_lt_of_pos _ (by decide)⟩
 | 4,⟨i,e⟩,⟨j,e'⟩ => subst e e'; exact ⟨_,rfl⟩
 | n + 5,h,_ => exact h.elim
theorem Thing.th {k : Nat} {d : D} (hk : k ≠ 0) (h : Thing k d) : Th k 1 d := by
 match k,hk,h with
 | 0,hk,_ => exact absurd rfl hk
 | k + 1,_,h => exact h
theorem th_sum {k : Nat} (hk : k ≠ 0) : ∀ {ts : List D},ts ≠ [] → (∀ t ∈ ts,Thing k t) → Th k ts.length (sumD k ts)
 | [],h,_ => absurd rfl h
 | [t],_,h => by rw [sumD_one hk]; exact (h t (by simp)).th hk
 | t :: u :: r,_,h => by
   rw [show t :: u :: r = [t] ++ (u :: r) from rfl,sumD_append hk (by simp) (by simp),sumD_one hk]
   have := ((h t (by simp)).th hk).ad (th_sum hk (ts := u :: r) (by simp) fun x hx => h x (List.mem_cons_of_mem _ hx))
   rw [Nat.add_comm] at this
   exact this
def ord (a : Bool) (xs : List D) : List D := if a = true then xs.reverse else xs
theorem ord_len (a : Bool) (xs : List D) : (ord a xs).length = xs.length := by unfold ord; split <;> simp
def mkD (num : Int) (a : Bool) (l t r : D) (sz ht : Int) (to ba : D) : D := .tup [.int num,.bl a,l,t,r,.int sz,.int ht,to,ba]
inductive Mk (k : Nat) : D → List D → Nat → Prop where
 | non : Mk k .non [] 0
 | node {num : Int} {a : Bool} {l t r : D} {lt rt : List D} {lh rh : Nat} : Mk k l lt lh → Mk k r rt rh → Thing k t → lh ≤ rh + 1 → rh ≤ lh + 1 →
   Mk k (mkD num a l t r (lt.length + 1 + rt.length : Nat) (max lh rh + 1 : Nat) (sumD k (ord a (lt ++ t :: rt))) (sumD k (ord a (lt ++ t :: rt)).reverse)) (ord a (lt ++ t :: rt)) (max lh rh + 1)
theorem Mk.things {k d ts h} (m : Mk k d ts h) : ∀ t ∈ ts,Thing k t := by
 induction m with
 | non => intro t ht; cases ht
 | @node num a l t r lt rt lh rh ml mr ht _ _ il ir =>
   intro x hx
   have : x ∈ lt ++ t :: rt := by
     unfold ord at hx
     split at hx
     · exact List.mem_reverse.mp hx
     · exact hx
   rcases List.mem_append.mp this with q | q
   · exact il x q
   · rcases List.mem_cons.mp q with rfl | q
     · exact ht
     · exact ir x q
end Mt
set_option maxHeartbeats 4000000
namespace Pg
open PySem L2 F Mt
variable {k : Nat} {d l r t : D} {ts lt rt : List D} {h lh rh : Nat} {S S1 : Sto} {ev e : Ev}
theorem two_le : (2 : Nat) ≤ sizeLine := by decide
theorem ix9_1 (a b c d e f g h i : D) : atI [a,b,c,d,e,f,g,h,i] (1 : Int) = some b := rfl
theorem ix9_2 (a b c d e f g h i : D) : atI [a,b,c,d,e,f,g,h,i] (2 : Int) = some c := rfl
theorem ix9_3 (a b c d e f g h i : D) : atI [a,b,c,d,e,f,g,h,i] (3 : Int) = some d := rfl
theorem ix9_4 (a b c d e f g h i : D) : atI [a,b,c,d,e,f,g,h,i] (4 : Int) = some e := rfl
theorem ix9_5 (a b c d e f g h i : D) : atI [a,b,c,d,e,f,g,h,i] (5 : Int) = some f := rfl
theorem ix9_6 (a b c d e f g h i : D) : atI [a,b,c,d,e,f,g,h,i] (6 : Int) = some g := rfl
theorem ix9_7 (a b c d e f g h i : D) : atI [a,b,c,d,e,f,g,h,i] (7 : Int) = some h := rfl
theorem ix9_8 (a b c d e f g h i : D) : atI [a,b,c,d,e,f,g,h,i] (8 : Int) = some i := rfl
theorem eq_int (i j : Int) : opEq (.int i) (.int j) = some (.bl (i == j)) := rfl
theorem eq_th {n : Nat} {x : D} (hx : Th k n x) : opEq x x = some (.bl true) := by
 match k,hx with
 | 0,h => exact h.elim
 | 1,⟨i,e⟩ => subst e; rw [eq_int]; simp
 | 2,⟨z,e,_⟩ => subst e; show (some (eqV (.str z) (.str z))).map D.bl = _; simp [eqV]
 | 3,⟨a,b,e,_⟩ => subst e; show (some ((eqV (.int a) (.int a)) && ((eqV (.int b) (.int b)) && true))).map D.bl = _; simp [eqV]
 | 4,⟨i,e⟩ => subst e; rw [eq_int]; simp
 | n + 5,h => exact h.elim
theorem eq_sum (hts : ∀ x ∈ ts,Thing k x) : opEq (sumD k ts) (sumD k ts) = some (.bl true) := by
 by_cases hk : k = 0
 · subst hk; rw [sumD_zero]; rfl
 · cases ts with
   | nil => rfl
   | cons x r => exact eq_th (th_sum hk (by simp) hts)
theorem set_at {i : Nat} {a b : MO} (h : S[i]? = some a) : (S.set i b)[i]? = some b := List.getElem?_set_self (List.getElem?_eq_some_iff.mp h).1
theorem set_ne {i j : Nat} (hij : i ≠ j) (b : MO) : (S.set i b)[j]? = S[j]? := List.getElem?_set_ne hij
def Ok (c : C) (ev : Ev) (S : Sto) : Prop := ∃ S',c ev S = some (.rt (.bl true),S')
theorem st_set {i : Nat} {f : E} (h : f ev S = some (d,S1)) : sSet i f ev S = some (.nx (ev.set i (some d)),S1) := by simp [sSet,h]
theorem st_pass {c : B} {a : C} (h : c ev S = some (false,S1)) : sIf c a sNil ev S = some (.nx ev,S1) := by simp [sIf,h,sNil]
theorem st_then {c : B} {a b : C} {o : Out} {S2 : Sto} (h : c ev S = some (true,S1)) (q : a ev S1 = some (o,S2)) : sIf c a b ev S = some (o,S2) := by simp [sIf,h,q]
theorem b_of {f : E} {b : Bool} (h : f ev S = some (.bl b,S1)) : bE f ev S = some (b,S1) := by simp [bE,h]
theorem b_not {u : B} {b : Bool} (h : u ev S = some (b,S1)) : bNot u ev S = some (!b,S1) := by simp [bNot,h]
theorem b_nT {u : B} (h : u ev S = some (true,S1)) : bNot u ev S = some (false,S1) := by simp [bNot,h]
theorem b_nF {u : B} (h : u ev S = some (false,S1)) : bNot u ev S = some (true,S1) := by simp [bNot,h]
theorem b_andF {u v : B} (h : u ev S = some (false,S1)) : bAnd u v ev S = some (false,S1) := by simp [bAnd,h]
theorem b_andT {u v : B} {b : Bool} {S2 : Sto} (h : u ev S = some (true,S1)) (q : v ev S1 = some (b,S2)) : bAnd u v ev S = some (b,S2) := by simp [bAnd,h,q]
theorem b_orF {u v : B} {b : Bool} {S2 : Sto} (h : u ev S = some (false,S1)) (q : v ev S1 = some (b,S2)) : bOr u v ev S = some (b,S2) := by simp [bOr,h,q]
theorem e_2 {op : D → D → Option D} {f g : E} {x y z : D} {S2 : Sto} (h : f ev S = some (x,S1)) (q : g ev S1 = some (y,S2)) (o : op x y = some z) : e2 op f g ev S = some (z,S2) := by simp [e2,h,q,o]
theorem e_2s {op : Sto → D → D → Option D} {f g : E} {x y z : D} {S2 : Sto} (h : f ev S = some (x,S1)) (q : g ev S1 = some (y,S2)) (o : op S2 x y = some z) : e2s op f g ev S = some (z,S2) := by simp [e2s,h,q,o]
theorem e_v {i : Nat} (h : ev[i]? = some (some d)) : eV i ev S = some (d,S) := by simp [eV,h]
theorem e_k : eK d ev S = some (d,S) := rfl
theorem a_n : aN ev S = some ([],S) := rfl
theorem a_c {f : E} {g : As} {ds : List D} {S2 : Sto} (h : f ev S = some (d,S1)) (q : g ev S1 = some (ds,S2)) : aC f g ev S = some (d :: ds,S2) := by simp [aC,h,q]
theorem e_call {g : G} {a : As} {ds : List D} {S2 : Sto} (h : a ev S = some (ds,S1)) (q : g ds S1 = some (d,S2)) : eCall g a ev S = some (d,S2) := by simp [eCall,h,q]
theorem e_a {op : Sto → List D → Option D} {a : As} {ds : List D} (h : a ev S = some (ds,S1)) (o : op S1 ds = some d) : eA op a ev S = some (d,S1) := by simp [eA,h,o]
theorem e_tup {a : As} {ds : List D} (h : a ev S = some (ds,S1)) (hl : ds.length ≤ 16777216) : eTup a ev S = some (.tup ds,S1) := by
 have hz : sizeLine = 16777216 := sizeLine_eq
 simp [eTup,eA,h,hz,hl]
theorem e_lst {a : As} {ds : List D} (h : a ev S = some (ds,S1)) (hl : ds.length ≤ 16777216) : eLst a ev S = some (.lst ds,S1) := by
 have hz : sizeLine = 16777216 := sizeLine_eq
 simp [eLst,eA,h,hz,hl]
theorem e_newL {a : As} {ds : List D} (h : a ev S = some (ds,S1)) (hl : ds.length ≤ 16777216) : eNewL a ev S = some (.obj S1.length,S1 ++ [.lst ds]) := by
 have hz : sizeLine = 16777216 := sizeLine_eq
 simp [eNewL,h,hz,hl]
theorem e_meth {c m : Str} {g : G} {f : E} {a : As} {i : Nat} {fs : List (Str × D)} {ds : List D} {S2 S3 : Sto} (h : f ev S = some (.obj i,S1)) (hi : insAt c S1 (.obj i) = some (i,fs)) (hm : fs.lookup m = none) (ha : a ev S1 = some (ds,S2)) (q : g (.obj i :: ds) S2 = some (d,S3)) :
   eMeth c m g f a ev S = some (d,S3) := by simp [eMeth,h,hi,hm,ha,q]
theorem e_fld {c n : Str} {f : E} {i : Nat} {fs : List (Str × D)} (h : f ev S = some (.obj i,S1)) (hi : insAt c S1 (.obj i) = some (i,fs)) (hm : fs.lookup n = some d) : eFld c n f ev S = some (d,S1) := by simp [eFld,h,hi,hm]
theorem e_sl {f : E} {a b : Pt} {x : D} {lo hi : Option Int} {S2 S3 : Sto} (h : f ev S = some (x,S1)) (ha : a ev S1 = some (lo,S2)) (hb : b ev S2 = some (hi,S3)) (o : opSl x lo hi = some d) : eSl f a b ev S = some (d,S3) := by simp [eSl,h,ha,hb,o]
theorem p_n : pN ev S = some (none,S) := rfl
theorem p_e {f : E} {i : Int} (h : f ev S = some (.int i,S1)) : pE f ev S = some (some i,S1) := by simp [pE,h]
theorem e_andT {f g : E} {S2 : Sto} (h : f ev S = some (.bl true,S1)) (q : g ev S1 = some (d,S2)) : eAnd f g ev S = some (d,S2) := by simp [eAnd,h,q]
theorem e_andF {f g : E} (h : f ev S = some (.bl false,S1)) : eAnd f g ev S = some (.bl false,S1) := by simp [eAnd,h]
theorem e_not {f : E} {b : Bool} (h : f ev S = some (.bl b,S1)) : eNot f ev S = some (.bl !b,S1) := by simp [eNot,e1,h]
theorem add_int (i j : Int) : opAdd (.int i) (.int j) = some (.int (i + j)) := rfl
theorem sub_int (i j : Int) : opSub (.int i) (.int j) = some (.int (i - j)) := rfl
theorem add_tup {x : D} {xs ys : List D} (h : (x :: xs).length + ys.length ≤ 16777216) : opAdd (.tup (x :: xs)) (.tup ys) = some (.tup (x :: xs ++ ys)) := by
 have hz : sizeLine = 16777216 := sizeLine_eq
 simp only [opAdd,hz,if_pos h]
def pl : Nat → D → Bool
 | _,.non => true
 | _,.bl _ => true
 | _,.int _ => true
 | _,.str _ => true
 | n + 1,.tup ds => ds.all (pl n)
 | n + 1,.lst ds => ds.all (pl n)
 | _,_ => false
theorem eqL_self {f : D → D → Option Bool} : ∀ {ds : List D},(∀ x ∈ ds,f x x = some true) → eqL f ds ds = some true
 | [],_ => rfl
 | x :: ds,h => by simp [eqL,h x (by simp),eqL_self fun y hy => h y (List.mem_cons_of_mem _ hy)]
theorem eqN_self : ∀ {n : Nat} {d : D},pl n d = true → eqN n d d = some true := by
 intro n
 induction n with
 | zero => intro d h; cases d <;> first | (cases h; done) | simp [eqN,eqF,flatD,eqV]
 | succ n ih =>
   intro d h
   cases d with
   | tup ds =>
     have h : ds.all (pl n) = true := h
     exact eqL_self fun x hx => ih (List.all_eq_true.mp h x hx)
   | lst ds =>
     have h : ds.all (pl n) = true := h
     have q : eqL (eqN n) ds ds = some true := eqL_self fun x hx => ih (List.all_eq_true.mp h x hx)
     simp [eqN,q]
   | _ => first | (cases h; done) | simp [eqN,eqF,flatD,eqV,isSeqD]
theorem pl_mono : ∀ {n m : Nat} {d : D},n ≤ m → pl n d = true → pl m d = true := by
 intro n
 induction n with
 | zero => intro m d _ h; cases d <;> first | (cases h; done) | (cases m <;> rfl)
 | succ n ih =>
   intro m d hm h
   cases m with
   | zero => omega
   | succ m =>
     cases d with
     | tup ds => exact List.all_eq_true.mpr fun x hx => ih (by omega) (List.all_eq_true.mp h x hx)
     | lst ds => exact List.all_eq_true.mpr fun x hx => ih (by omega) (List.all_eq_true.mp h x hx)
     | _ => first | (cases h; done) | rfl
theorem pl_th {n : Nat} {x : D} (hx : Th k n x) : pl 1 x = true := by
 match k,hx with
 | 0,h => exact h.elim
 | 1,⟨i,e⟩ => subst e; rfl
 | 2,⟨z,e,_⟩ => subst e; rfl
 | 3,⟨a,b,e,_⟩ => subst e; rfl
 | 4,⟨i,e⟩ => subst e; rfl
 | n + 5,h => exact h.elim
theorem pl_thing {x : D} (hx : Thing k x) : pl 1 x = true := by
 match k,hx with
 | 0,.inl ⟨i,e⟩ => subst e; rfl
 | 0,.inr ⟨z,e,_⟩ => subst e; rfl
 | k + 1,h => exact pl_th (k := k + 1) h
theorem eq_pl (h : pl 150 d = true) : opEq d d = some (.bl true) := by unfold opEq; rw [eqN_self h]; rfl
theorem ne_pl (h : pl 150 d = true) : opNe d d = some (.bl false) := by unfold opNe; rw [eqN_self h]; rfl
theorem pl_lst (hts : ∀ x ∈ ts,Thing k x) : pl 2 (.lst ts) = true := List.all_eq_true.mpr fun x hx => pl_thing (hts x hx)
theorem b_rt {N n : Nat} {c : C} {ds : List D} {S S' : Sto} {d : D} (hl : ds.length = n) (h : c (ds.map some ++ List.replicate (N - ds.length) none) S = some (.rt d,S')) : bodyF N n c ds S = some (d,S') := by
 unfold bodyF; rw [if_pos hl,h]
theorem st_ret {f : E} (h : f ev S = some (d,S1)) : sRet f ev S = some (.rt d,S1) := by simp [sRet,h]
theorem st_seqR {a b : C} (h : a ev S = some (.rt d,S1)) : sSeq a b ev S = some (.rt d,S1) := by simp [sSeq,h]
theorem st_seq {a b : C} {o : Out} {S2 : Sto} (h : a ev S = some (.nx e,S1)) (q : b e S1 = some (o,S2)) : sSeq a b ev S = some (o,S2) := by simp [sSeq,h,q]
inductive Sv : D → Prop where
 | non : Sv .non
 | int (i : Int) : Sv (.int i)
 | str (z : Str) : Sv (.str z)
 | pair (a b : Int) : Sv (.tup [.int a,.int b])
theorem sv_th {n : Nat} {x : D} (hx : Th k n x) : Sv x := by
 match k,hx with
 | 0,h => exact h.elim
 | 1,⟨i,e⟩ => subst e; exact .int _
 | 2,⟨z,e,_⟩ => subst e; exact .str _
 | 3,⟨a,b,e,_⟩ => subst e; exact .pair _ _
 | 4,⟨i,e⟩ => subst e; exact .int _
 | n + 5,h => exact h.elim
theorem sv_thing {x : D} (hx : Thing k x) : Sv x := by
 match k,hx with
 | 0,.inl ⟨i,e⟩ => subst e; exact .int _
 | 0,.inr ⟨z,e,_⟩ => subst e; exact .str _
 | k + 1,h => exact sv_th (k := k + 1) h
def low : Nat → Nat
 | 0 => 0
 | 1 => 1
 | h + 2 => low (h + 1) + low h + 1
theorem low_step : ∀ h : Nat,low h ≤ low (h + 1)
 | 0 => by decide
 | 1 => by decide
 | h + 2 => by
   show low (h + 2) ≤ low (h + 2) + low (h + 1) + 1
   omega
theorem low_mono {a b : Nat} (h : a ≤ b) : low a ≤ low b := by
 induction b with
 | zero => rw [Nat.le_zero.mp h]; exact Nat.le_refl _
 | succ b ih =>
   rcases Nat.lt_or_ge a (b + 1) with q | q
   · exact Nat.le_trans (ih (by omega)) (low_step b)
   · rw [Nat.le_antisymm h q]; exact Nat.le_refl _
theorem mk_low {k : Nat} {d : D} {ts : List D} {h : Nat} (m : Mk k d ts h) : low h ≤ ts.length := by
 induction m with
 | non => decide
 | @node num a l t r lt rt lh rh ml mr ht h1 h2 il ir =>
   rw [ord_len,List.length_append,List.length_cons]
   rcases Nat.le_total lh rh with q | q
   · rw [Nat.max_eq_right q]
     cases rh with
     | zero => have : lh = 0 := by omega
               subst this; show 1 ≤ _; omega
     | succ rh =>
       show low (rh + 1) + low rh + 1 ≤ _
       have := low_mono (show rh ≤ lh by omega)
       omega
   · rw [Nat.max_eq_left q]
     cases lh with
     | zero => have : rh = 0 := by omega
               subst this; show 1 ≤ _; omega
     | succ lh =>
       show low (lh + 1) + low lh + 1 ≤ _
       have := low_mono (show lh ≤ rh by omega)
       omega
theorem mod_e {x j : Int} (h : 0 < j) : opMod (.int x) (.int j) = some (.int (x % j)) := by simp [opMod,F.opI,modI,h]
theorem div_e {x j : Int} (h : 0 < j ∧ j < 1073741824) : opDiv (.int x) (.int j) = some (.int (x / j)) := by simp [opDiv,F.opI,divI,h]
theorem mul_eL {x y : Int} (h : -(2 ^ 64) < x ∧ x < 2 ^ 64) : opMul (.int x) (.int y) = some (.int (x * y)) := by
 simp only [opMul,F.opI,mulI]; rw [if_pos (.inl h)]; rfl
theorem mul_eR {x y : Int} (h : -(2 ^ 64) < y ∧ y < 2 ^ 64) : opMul (.int x) (.int y) = some (.int (x * y)) := by
 simp only [opMul,F.opI,mulI]; rw [if_pos (.inr (.inl h))]; rfl
theorem last_at (S : Sto) (x : MO) : (S ++ [x])[S.length]? = some x := by simp
end Pg
set_option maxHeartbeats 8000000
namespace Pg
open PySem L2 F
noncomputable section
def lt_0 : LT where
 params := {
                   posonlyargs := [],
                   args := [
                     { arg := "_law_one",annotation := none,pos := ⟨301,25,301,33⟩ : PySem.Arg },
                     { arg := "_law_other",annotation := none,pos := ⟨301,35,301,45⟩ : PySem.Arg }],
                   vararg := none,
                   kwonlyargs := [],
                   kw_defaults := [],
                   kwarg := none,
                   defaults := [] : PySem.Arguments }
 body := (PySem.Expr.Compare
                   (left := (PySem.Expr.Call
                     (func := (PySem.Expr.Name "_law_key" ⟨301,47,301,55⟩))
                     (args := [(PySem.Expr.Name "_law_kind" ⟨301,56,301,65⟩),(PySem.Expr.Name "_law_one" ⟨301,67,301,75⟩)])
                     (keywords := [])
                     (pos := ⟨301,47,301,76⟩)))
                   (ops := [PySem.CmpOp.Lt])
                   (comparators := [
                     (PySem.Expr.Call
                       (func := (PySem.Expr.Name "_law_key" ⟨301,79,301,87⟩))
                       (args := [(PySem.Expr.Name "_law_kind" ⟨301,88,301,97⟩),(PySem.Expr.Name "_law_other" ⟨301,99,301,109⟩)])
                       (keywords := [])
                       (pos := ⟨301,79,301,110⟩))])
                   (pos := ⟨301,47,301,110⟩))
 scope := {
                   kind := PySem.ScopeKind.function,
                   names := [
                     (PySem.Str.ofString "_law_one",PySem.NameKind.local),
                     (PySem.Str.ofString "_law_other",PySem.NameKind.local),
                     (PySem.Str.ofString "_law_kind",PySem.NameKind.free),
                     (PySem.Str.ofString "_law_key",PySem.NameKind.globalImplicit)],
                   isGenerator := false,
                   isCoroutine := false,
                   more := [] : PySem.Scope }
 qual := (("law" : Str) ++ ".<locals>.") ++ "<lambda>"
 caps := ["_law_kind"]
open Classical in
noncomputable def lamt : LT → Option G := fun t =>
 none
def tabs : List (Str × Str) := [("law",(("law" : Str) ++ ".<locals>.") ++ "<lambda>")]
def c_Wood___init__ : C :=
 (sSeq (sFldS "Wood" "adding" (eV 0) (eV 1)) (sFldS "Wood" "nodes_made" (eV 0) (eK (.int 0))))
def g_Wood___init__ : G := bodyF 2 2 c_Wood___init__
def c__law_cell : C :=
 (sSeq (sSet 2 (e2 opAdd (e2 opMul (e2 opMul (eV 1) (eV 1)) (eK (.int 7919))) (eK (.int 17)))) (sSeq (sIf (bE (e2 opGt (eA lenD (aC (eV 0) aN)) (eK (.int 0)))) (sSet 2 (e2 opAdd (e2 opMod (e2s opIx (eV 0) (e2 opMod (eV 1) (eA lenD (aC (eV 0) aN)))) (e2 opPow (eK (.int 10)) (eK (.int 30)))) (e2 opMul (e2 opDiv (eV 1) (eA lenD (aC (eV 0) aN))) (eK (.int 104729))))) sNil) (sRet (e2 opMod (e2 opMul (e2 opMod (e2 opAdd (e2 opMul (eV 2) (eK (.int 48271))) (e2 opMul (eV 1) (eK (.int 69621)))) (eK (.int 2147483647))) (e2 opAdd (e2 opMod (eV 2) (eK (.int 65521))) (eK (.int 3)))) (eK (.int 999999937))))))
def g__law_cell : G := bodyF 3 2 c__law_cell
def c__law_key : C :=
 (sSeq (sIf (bE (e2 opEq (eV 0) (eK (.int 1)))) (sRet (e2 opSub (eK (.int 0)) (eV 1))) sNil) (sSeq (sIf (bE (e2 opEq (eV 0) (eK (.int 2)))) (sRet (eTup (aC (e2 opMod (eV 1) (eK (.int 7))) (aC (eV 1) aN)))) sNil) (sSeq (sIf (bE (e2 opEq (eV 0) (eK (.int 3)))) (sRet (e2 opDiv (eV 1) (eK (.int 3)))) sNil) (sSeq (sIf (bE (e2 opEq (eV 0) (eK (.int 4)))) (sRet (eA absD (aC (eV 1) aN))) sNil) (sSeq (sIf (bE (e2 opEq (eV 0) (eK (.int 6)))) (sRet (eTup (aC (eA lenD (aC (eV 1) aN)) (aC (eV 1) aN)))) sNil) (sSeq (sIf (bE (e2 opEq (eV 0) (eK (.int 7)))) (sRet (eSlS (eV 1) pN (pE (eK (.int 1))))) sNil) (sRet (eV 1))))))))
def g__law_key : G := bodyF 2 2 c__law_key
def c_seen : C :=
 (sSeq (sIf (bE (e2 opEq (e2s opIx (eV 0) (eK (.int 1))) (eV 1))) (sRet (eTup (aC (e2s opIx (eV 0) (eK (.int 2))) (aC (e2s opIx (eV 0) (eK (.int 3))) (aC (e2s opIx (eV 0) (eK (.int 4))) (aC (eK (.bl false)) aN)))))) sNil) (sRet (eTup (aC (e2s opIx (eV 0) (eK (.int 4))) (aC (e2s opIx (eV 0) (eK (.int 3))) (aC (e2s opIx (eV 0) (eK (.int 2))) (aC (eK (.bl true)) aN)))))))
def g_seen : G := bodyF 2 2 c_seen
def c_gather (self : G) : C :=
 (sSeq (sIf (bE (e2 opIs (eV 0) (eK .non))) sRetN sNil) (sSeq (sSet 3 (eCall g_seen (aC (eV 0) (aC (eV 1) aN)))) (sSeq (sDrop (eCall (self) (aC (e2s opIx (eV 3) (eK (.int 0))) (aC (e2s opIx (eV 3) (eK (.int 3))) (aC (eV 2) aN))))) (sSeq (sAppend (eV 2) (e2s opIx (eV 3) (eK (.int 1)))) (sDrop (eCall (self) (aC (e2s opIx (eV 3) (eK (.int 2))) (aC (e2s opIx (eV 3) (eK (.int 3))) (aC (eV 2) aN)))))))))
def g_gather : Nat → G
 | 0 => fun _ _ => none
 | k + 1 => bodyF 4 3 (c_gather (g_gather k))
def c_things_of : C :=
 (sSeq (sSet 1 (eNewL aN)) (sSeq (sDrop (eCall (g_gather 40) (aC (eV 0) (aC (eK (.bl false)) (aC (eV 1) aN))))) (sRet (eV 1))))
def g_things_of : G := frz (bodyF 2 1 c_things_of)
def c__law_keys : C :=
 (sRet (eCompL [0] (eCall g_things_of (aC (eV 1) aN)) bYes (eCall g__law_key (aC (eV 1) (aC (eV 0) aN)))))
def g__law_keys : G := bodyF 2 2 c__law_keys
def c_is_whole : C :=
 (sRet (eAnd (eA isiD (aC (eV 0) (aC (eK (.ty "int")) aN))) (eNot (eA isiD (aC (eV 0) (aC (eK (.ty "bool")) aN))))))
def g_is_whole : G := bodyF 1 1 c_is_whole
def c_has_form : C :=
 (sSeq (sIf (bOr (bNot (bE (eA isiD (aC (eV 0) (aC (eK (.ty "tuple")) aN))))) (bE (e2 opNe (eA lenD (aC (eV 0) aN)) (eK (.int 9))))) (sRet (eK (.bl false))) sNil) (sSeq (sIf (bNot (bE (eA isiD (aC (e2s opIx (eV 0) (eK (.int 1))) (aC (eK (.ty "bool")) aN))))) (sRet (eK (.bl false))) sNil) (sRet (eAnd (eCall g_is_whole (aC (e2s opIx (eV 0) (eK (.int 0))) aN)) (eAnd (eCall g_is_whole (aC (e2s opIx (eV 0) (eK (.int 5))) aN)) (eCall g_is_whole (aC (e2s opIx (eV 0) (eK (.int 6))) aN)))))))
def g_has_form : G := bodyF 1 1 c_has_form
def c_height : C :=
 (sSeq (sIf (bE (e2 opIs (eV 0) (eK .non))) (sRet (eK (.int 0))) sNil) (sRet (e2s opIx (eV 0) (eK (.int 6)))))
def g_height : G := bodyF 1 1 c_height
def c_height_above : C :=
 (sRet (e2 opAdd (eK (.int 1)) (eA maxD (aC (eCall g_height (aC (eV 0) aN)) (aC (eCall g_height (aC (eV 1) aN)) aN)))))
def g_height_above : G := bodyF 2 2 c_height_above
def c_in_balance : C :=
 (sRet (e2 opLe (eA absD (aC (e2 opSub (eCall g_height (aC (eV 0) aN)) (eCall g_height (aC (eV 1) aN))) aN)) (eK (.int 1))))
def g_in_balance : G := bodyF 2 2 c_in_balance
def c_size : C :=
 (sSeq (sIf (bE (e2 opIs (eV 0) (eK .non))) (sRet (eK (.int 0))) sNil) (sRet (e2s opIx (eV 0) (eK (.int 5)))))
def g_size : G := bodyF 1 1 c_size
def c_size_above : C :=
 (sRet (e2 opAdd (e2 opAdd (eCall g_size (aC (eV 0) aN)) (eK (.int 1))) (eCall g_size (aC (eV 1) aN))))
def g_size_above : G := bodyF 2 2 c_size_above
def c_has_right_measures : C :=
 (sSeq (sSet 1 (e2s opIx (eV 0) (eK (.int 2)))) (sSeq (sSet 2 (e2s opIx (eV 0) (eK (.int 4)))) (sSeq (sIf (bNot (bE (eCall g_in_balance (aC (eV 1) (aC (eV 2) aN))))) (sRet (eK (.bl false))) sNil) (sRet (eAnd (e2 opEq (e2s opIx (eV 0) (eK (.int 5))) (eCall g_size_above (aC (eV 1) (aC (eV 2) aN)))) (e2 opEq (e2s opIx (eV 0) (eK (.int 6))) (eCall g_height_above (aC (eV 1) (aC (eV 2) aN)))))))))
def g_has_right_measures : G := bodyF 3 1 c_has_right_measures
def c_back : C :=
 (sSeq (sIf (bE (e2 opIs (eV 0) (eK .non))) (sRet (eK .non)) sNil) (sRet (e2s opIx (eV 0) (eK (.int 8)))))
def g_back : G := bodyF 1 1 c_back
def ft : Str → Option G := fun x =>
 none
def c_backward_sum : C :=
 (sSeq (sSet 4 (eV 2)) (sSeq (sIf (bE (e2 opIsNot (eV 3) (eK .non))) (sSet 4 (eCallW ft lamt (eV 0) (aC (eCall g_back (aC (eV 3) aN)) (aC (eV 4) aN)))) sNil) (sSeq (sIf (bE (e2 opIsNot (eV 1) (eK .non))) (sSet 4 (eCallW ft lamt (eV 0) (aC (eV 4) (aC (eCall g_back (aC (eV 1) aN)) aN)))) sNil) (sRet (eV 4)))))
def g_backward_sum : G := bodyF 5 4 c_backward_sum
def c_total : C :=
 (sSeq (sIf (bE (e2 opIs (eV 0) (eK .non))) (sRet (eK .non)) sNil) (sRet (e2s opIx (eV 0) (eK (.int 7)))))
def g_total : G := bodyF 1 1 c_total
def c_onward_sum : C :=
 (sSeq (sSet 4 (eV 2)) (sSeq (sIf (bE (e2 opIsNot (eV 1) (eK .non))) (sSet 4 (eCallW ft lamt (eV 0) (aC (eCall g_total (aC (eV 1) aN)) (aC (eV 4) aN)))) sNil) (sSeq (sIf (bE (e2 opIsNot (eV 3) (eK .non))) (sSet 4 (eCallW ft lamt (eV 0) (aC (eV 4) (aC (eCall g_total (aC (eV 3) aN)) aN)))) sNil) (sRet (eV 4)))))
def g_onward_sum : G := bodyF 5 4 c_onward_sum
def c_sums_above : C :=
 (sSeq (sIf (bE (e2 opIs (eV 0) (eK .non))) (sRet (eTup (aC (eK .non) (aC (eK .non) aN)))) sNil) (sRet (eTup (aC (eCall g_onward_sum (aC (eV 0) (aC (eV 1) (aC (eV 2) (aC (eV 3) aN))))) (aC (eCall g_backward_sum (aC (eV 0) (aC (eV 1) (aC (eV 2) (aC (eV 3) aN))))) aN)))))
def g_sums_above : G := bodyF 4 4 c_sums_above
def c_has_right_sums : C :=
 (sSeq (sSet 2 (eCall g_sums_above (aC (eV 1) (aC (e2s opIx (eV 0) (eK (.int 2))) (aC (e2s opIx (eV 0) (eK (.int 3))) (aC (e2s opIx (eV 0) (eK (.int 4))) aN)))))) (sSeq (sIf (bE (e2s opIx (eV 0) (eK (.int 1)))) (sRet (eAnd (e2 opEq (e2s opIx (eV 0) (eK (.int 7))) (e2s opIx (eV 2) (eK (.int 1)))) (e2 opEq (e2s opIx (eV 0) (eK (.int 8))) (e2s opIx (eV 2) (eK (.int 0)))))) sNil) (sRet (eAnd (e2 opEq (e2s opIx (eV 0) (eK (.int 7))) (e2s opIx (eV 2) (eK (.int 0)))) (e2 opEq (e2s opIx (eV 0) (eK (.int 8))) (e2s opIx (eV 2) (eK (.int 1))))))))
def g_has_right_sums : G := bodyF 3 2 c_has_right_sums
def c_is_right (self : G) : C :=
 (sSeq (sIf (bE (e2 opIs (eV 0) (eK .non))) (sRet (eK (.bl true))) sNil) (sSeq (sIf (bNot (bE (eCall g_has_form (aC (eV 0) aN)))) (sRet (eK (.bl false))) sNil) (sSeq (sIf (bOr (bNot (bE (eCall (self) (aC (e2s opIx (eV 0) (eK (.int 2))) (aC (eV 1) aN))))) (bNot (bE (eCall (self) (aC (e2s opIx (eV 0) (eK (.int 4))) (aC (eV 1) aN)))))) (sRet (eK (.bl false))) sNil) (sRet (eAnd (eCall g_has_right_measures (aC (eV 0) aN)) (eCall g_has_right_sums (aC (eV 0) (aC (eV 1) aN))))))))
def g_is_right : Nat → G
 | 0 => fun _ _ => none
 | k + 1 => bodyF 2 2 (c_is_right (g_is_right k))
def ge_0 : E :=
 (e2 opLtK (eCall g__law_key (aC (eV 2) (aC (eV 0) aN))) (eCall g__law_key (aC (eV 2) (aC (eV 1) aN))))
def gl_0 : G := bodyE 3 3 ge_0
open Classical in
noncomputable def clot : LT → Option G := fun t =>
 if t = lt_0 then some gl_0 else
 none
def c__law_right : C :=
 (sSeq (sAlt (isLst (eV 0)) (sForL 2 (eV 0) (sSeq (sSet 3 (eCall g_things_of (aC (eV 2) aN))) (sSeq (sIf (bNot (bE (eCall (dflt 1 (g_is_right 40)) (aC (eV 2) aN)))) (sRet (eK (.bl false))) sNil) (sForR2 4 (eK (.int 1)) (eA lenD (aC (eV 3) aN)) (sIf (bNot (bE (eCallX ft lamt clot (eV 1) (aC (e2s opIx (eV 3) (e2 opSub (eV 4) (eK (.int 1)))) (aC (e2s opIx (eV 3) (eV 4)) aN))))) (sRet (eK (.bl false))) sNil))))) (sForO 2 (eV 0) (sSeq (sSet 3 (eCall g_things_of (aC (eV 2) aN))) (sSeq (sIf (bNot (bE (eCall (dflt 1 (g_is_right 40)) (aC (eV 2) aN)))) (sRet (eK (.bl false))) sNil) (sForR2 4 (eK (.int 1)) (eA lenD (aC (eV 3) aN)) (sIf (bNot (bE (eCallX ft lamt clot (eV 1) (aC (e2s opIx (eV 3) (e2 opSub (eV 4) (eK (.int 1)))) (aC (e2s opIx (eV 3) (eV 4)) aN))))) (sRet (eK (.bl false))) sNil)))))) (sRet (eK (.bl true))))
def g__law_right : G := bodyF 5 2 c__law_right
def c__law_thing : C :=
 (sSeq (sIf (bE (e2 opLt (eV 0) (eK (.int 5)))) (sRet (e2 opSub (e2 opMod (e2 opDiv (eV 1) (eK (.int 9))) (eK (.int 31))) (eK (.int 15)))) sNil) (sSeq (sSet 2 (eK (.str (Str.ofString "")))) (sSeq (sForR 3 (e2 opAdd (eK (.int 1)) (e2 opMod (eV 1) (eK (.int 3)))) (sSet 2 (e2 opAdd (eV 2) (e2s opIx (eK (.str (Str.ofString "abcde"))) (e2 opMod (e2 opDiv (eV 1) (e2s opIx (eTup (aC (eK (.int 3)) (aC (eK (.int 15)) (aC (eK (.int 75)) aN)))) (eV 3))) (eK (.int 5))))))) (sRet (eV 2)))))
def g__law_thing : G := bodyF 4 2 c__law_thing
def c_check_place : C :=
 (sIf (bNot (bE (eChain opLe opLt (eK (.int 0)) (eV 0) (eV 1)))) sNever sNil)
def g_check_place : G := bodyF 2 2 c_check_place
def c_thing_at (self : G) : C :=
 (sSeq (sSet 3 (eCall g_seen (aC (eV 0) (aC (eV 1) aN)))) (sSeq (sSet 4 (eCall g_size (aC (e2s opIx (eV 3) (eK (.int 0))) aN))) (sSeq (sIf (bE (e2 opLt (eV 2) (eV 4))) (sRet (eCall (self) (aC (e2s opIx (eV 3) (eK (.int 0))) (aC (e2s opIx (eV 3) (eK (.int 3))) (aC (eV 2) aN))))) sNil) (sSeq (sIf (bE (e2 opGt (eV 2) (eV 4))) (sRet (eCall (self) (aC (e2s opIx (eV 3) (eK (.int 2))) (aC (e2s opIx (eV 3) (eK (.int 3))) (aC (e2 opSub (e2 opSub (eV 2) (eV 4)) (eK (.int 1))) aN))))) sNil) (sRet (e2s opIx (eV 3) (eK (.int 1))))))))
def g_thing_at : Nat → G
 | 0 => fun _ _ => none
 | k + 1 => bodyF 5 3 (c_thing_at (g_thing_at k))
def c_at : C :=
 (sSeq (sDrop (eCall g_check_place (aC (eV 1) (aC (eCall g_size (aC (eV 0) aN)) aN)))) (sRet (eCall (g_thing_at 40) (aC (eV 0) (aC (eK (.bl false)) (aC (eV 1) aN))))))
def g_at : G := bodyF 2 2 c_at
def c_is_alike_at : C :=
 (sRet (eAnd (e2 opLt (eV 1) (eCall g_size (aC (eV 0) aN))) (eNot (eCallX ft lamt clot (eV 3) (aC (eV 2) (aC (eCall g_at (aC (eV 0) (aC (eV 1) aN))) aN))))))
def g_is_alike_at : G := bodyF 4 4 c_is_alike_at
def c_count_before (self : G) : C :=
 (sSeq (sIf (bE (e2 opIs (eV 0) (eK .non))) (sRet (eK (.int 0))) sNil) (sSeq (sSet 4 (eCall g_seen (aC (eV 0) (aC (eV 1) aN)))) (sSeq (sIf (bE (eCallX ft lamt clot (eV 3) (aC (e2s opIx (eV 4) (eK (.int 1))) (aC (eV 2) aN)))) (sRet (e2 opAdd (e2 opAdd (eCall g_size (aC (e2s opIx (eV 4) (eK (.int 0))) aN)) (eK (.int 1))) (eCall (self) (aC (e2s opIx (eV 4) (eK (.int 2))) (aC (e2s opIx (eV 4) (eK (.int 3))) (aC (eV 2) (aC (eV 3) aN))))))) sNil) (sRet (eCall (self) (aC (e2s opIx (eV 4) (eK (.int 0))) (aC (e2s opIx (eV 4) (eK (.int 3))) (aC (eV 2) (aC (eV 3) aN)))))))))
def g_count_before : Nat → G
 | 0 => fun _ _ => none
 | k + 1 => bodyF 5 4 (c_count_before (g_count_before k))
def c_place_of : C :=
 (sRet (eCall (g_count_before 40) (aC (eV 0) (aC (eK (.bl false)) (aC (eV 1) (aC (eV 2) aN))))))
def g_place_of : G := bodyF 3 3 c_place_of
def c_has : C :=
 (sRet (eCall g_is_alike_at (aC (eV 0) (aC (eCall g_place_of (aC (eV 0) (aC (eV 1) (aC (eV 2) aN)))) (aC (eV 1) (aC (eV 2) aN))))))
def g_has : G := bodyF 3 3 c_has
def c_Wood_numbered : C :=
 (sSeq (sSet 2 (eFld "Wood" "nodes_made" (eV 0))) (sSeq (sFldS "Wood" "nodes_made" (eV 0) (e2 opAdd (eV 2) (eK (.int 1)))) (sRet (e2 opAdd (eTup (aC (eV 2) aN)) (eV 1)))))
def g_Wood_numbered : G := bodyF 3 2 c_Wood_numbered
def c_check_room : C :=
 (sIf (bE (e2 opGt (eV 0) (eK (.int 2000)))) sNever sNil)
def g_check_room : G := bodyF 1 1 c_check_room
def c_Wood_node : C :=
 (sSeq (sSet 4 (eCall g_size_above (aC (eV 1) (aC (eV 3) aN)))) (sSeq (sDrop (eCall g_check_room (aC (eV 4) aN))) (sSeq (sIf (bNot (bE (eCall g_in_balance (aC (eV 1) (aC (eV 3) aN))))) sNever sNil) (sSeq (sSet 5 (eTup (aC (eV 4) (aC (eCall g_height_above (aC (eV 1) (aC (eV 3) aN))) aN)))) (sSeq (sSet 6 (eCall g_sums_above (aC (eFld "Wood" "adding" (eV 0)) (aC (eV 1) (aC (eV 2) (aC (eV 3) aN)))))) (sRet (eMeth "Wood" "numbered" g_Wood_numbered (eV 0) (aC (e2 opAdd (e2 opAdd (eTup (aC (eK (.bl false)) (aC (eV 1) (aC (eV 2) (aC (eV 3) aN))))) (eV 5)) (eV 6)) aN))))))))
def g_Wood_node : G := bodyF 7 4 c_Wood_node
def c_built (self : G) : C :=
 (sSeq (sIf (bE (e2 opEq (eV 2) (eV 3))) (sRet (eK .non)) sNil) (sSeq (sSet 4 (e2 opDiv (e2 opAdd (eV 2) (eV 3)) (eK (.int 2)))) (sSeq (sSet 5 (eCall (self) (aC (eV 0) (aC (eV 1) (aC (eV 2) (aC (eV 4) aN)))))) (sSeq (sSet 6 (eCall (self) (aC (eV 0) (aC (eV 1) (aC (e2 opAdd (eV 4) (eK (.int 1))) (aC (eV 3) aN)))))) (sRet (eMeth "Wood" "node" g_Wood_node (eV 0) (aC (eV 5) (aC (e2s opIx (eV 1) (eV 4)) (aC (eV 6) aN)))))))))
def g_built : Nat → G
 | 0 => fun _ _ => none
 | k + 1 => bodyF 7 4 (c_built (g_built k))
def c_make_of : C :=
 (sSeq (sDrop (eCall g_check_room (aC (eA lenD (aC (eV 1) aN)) aN))) (sRet (eCall (g_built 40) (aC (eV 0) (aC (eV 1) (aC (eK (.int 0)) (aC (eA lenD (aC (eV 1) aN)) aN)))))))
def g_make_of : G := bodyF 2 2 c_make_of
def c_common : C :=
 (sRet (eCall g_make_of (aC (eV 0) (aC (eCompL [3,2] (eCall g_things_of (aC (eV 1) aN)) (bE (eCall g_has (aC (eV 2) (aC (eV 0) (aC (eV 1) aN))))) (eV 0)) aN))))
def g_common : G := bodyF 4 4 c_common
def c_merged : C :=
 (sSeq (sSet 3 (eNewL aN)) (sSeq (sSet 4 (eK (.int 0))) (sSeq (sForL 5 (eV 0) (sSeq (sWhile 5000 (bAnd (bE (e2 opLt (eV 4) (eA lenD (aC (eV 1) aN)))) (bE (eCallX ft lamt clot (eV 2) (aC (e2s opIx (eV 1) (eV 4)) (aC (eV 5) aN))))) (sSeq (sAppend (eV 3) (e2s opIx (eV 1) (eV 4))) (sSet 4 (e2 opAdd (eV 4) (eK (.int 1)))))) (sSeq (sAppend (eV 3) (eV 5)) (sIf (bAnd (bE (e2 opLt (eV 4) (eA lenD (aC (eV 1) aN)))) (bNot (bE (eCallX ft lamt clot (eV 2) (aC (eV 5) (aC (e2s opIx (eV 1) (eV 4)) aN)))))) (sSet 4 (e2 opAdd (eV 4) (eK (.int 1)))) sNil)))) (sRet (e2s opAddL (eV 3) (eSl (eV 1) (pE (eV 4)) pN))))))
def g_merged : G := frz (bodyF 6 3 c_merged)
def c_either : C :=
 (sRet (eCall g_make_of (aC (eV 0) (aC (eCall g_merged (aC (eCall g_things_of (aC (eV 1) aN)) (aC (eCall g_things_of (aC (eV 2) aN)) (aC (eV 3) aN)))) aN))))
def g_either : G := bodyF 4 4 c_either
def c_less : C :=
 (sRet (eCall g_make_of (aC (eV 0) (aC (eCompL [3,2] (eCall g_things_of (aC (eV 1) aN)) (bNot (bE (eCall g_has (aC (eV 2) (aC (eV 0) (aC (eV 1) aN)))))) (eV 0)) aN))))
def g_less : G := bodyF 4 4 c_less
def c__law_two : C :=
 (sSeq (sSet 4 (eCall g_either (aC (eV 0) (aC (eV 1) (aC (eV 2) (aC (eV 3) aN)))))) (sSeq (sSet 5 (eCall g_common (aC (eV 0) (aC (eV 1) (aC (eV 2) (aC (eV 3) aN)))))) (sSeq (sSet 6 (eCall g_less (aC (eV 0) (aC (eV 1) (aC (eV 2) (aC (eV 3) aN)))))) (sSeq (sIf (bNot (bE (eCall g__law_right (aC (eLst (aC (eV 4) (aC (eV 5) (aC (eV 6) aN)))) (aC (eV 3) aN))))) (sRet (eK (.bl false))) sNil) (sSeq (sIf (bOr (bE (e2 opNe (e2 opAdd (eCall g_size (aC (eV 4) aN)) (eCall g_size (aC (eV 5) aN))) (e2 opAdd (eCall g_size (aC (eV 1) aN)) (eCall g_size (aC (eV 2) aN))))) (bE (e2 opIsNot (eCall g_common (aC (eV 0) (aC (eV 6) (aC (eV 2) (aC (eV 3) aN))))) (eK .non)))) (sRet (eK (.bl false))) sNil) (sSeq (sIf (bE (e2 opNe (eCall g_things_of (aC (eCall g_either (aC (eV 0) (aC (eV 6) (aC (eV 5) (aC (eV 3) aN))))) aN)) (eCall g_things_of (aC (eV 1) aN)))) (sRet (eK (.bl false))) sNil) (sSeq (sForL 7 (eLst (aC (eV 1) (aC (eV 2) aN))) (sForR 8 (eCall g_size (aC (eV 7) aN)) (sSeq (sSet 9 (eCall g_at (aC (eV 7) (aC (eV 8) aN)))) (sIf (bOr (bE (e2 opNe (eCall g_place_of (aC (eV 7) (aC (eV 9) (aC (eV 3) aN)))) (eV 8))) (bE (e2 opIsNot (eCall g_has (aC (eV 4) (aC (eV 9) (aC (eV 3) aN)))) (eK (.bl true))))) (sRet (eK (.bl false))) sNil)))) (sRet (e2 opIs (eCall g_less (aC (eV 0) (aC (eV 1) (aC (eV 1) (aC (eV 3) aN))))) (eK .non))))))))))
def g__law_two : G := bodyF 10 4 c__law_two
def c_Wood_turned : C :=
 (sSeq (sIf (bE (e2 opIs (eV 1) (eK .non))) (sRet (eK .non)) sNil) (sSeq (sSet 2 (eTup (aC (e2s opIx (eV 1) (eK (.int 2))) (aC (e2s opIx (eV 1) (eK (.int 3))) (aC (e2s opIx (eV 1) (eK (.int 4))) aN))))) (sRet (eMeth "Wood" "numbered" g_Wood_numbered (eV 0) (aC (e2 opAdd (e2 opAdd (eTup (aC (eNot (e2s opIx (eV 1) (eK (.int 1)))) aN)) (eV 2)) (eTup (aC (eCall g_size (aC (eV 1) aN)) (aC (eCall g_height (aC (eV 1) aN)) (aC (eCall g_back (aC (eV 1) aN)) (aC (eCall g_total (aC (eV 1) aN)) aN)))))) aN)))))
def g_Wood_turned : G := bodyF 3 2 c_Wood_turned
def c_parts : C :=
 (sSeq (sIf (bNot (bE (e2s opIx (eV 1) (eK (.int 1))))) (sRet (eTup (aC (e2s opIx (eV 1) (eK (.int 2))) (aC (e2s opIx (eV 1) (eK (.int 3))) (aC (e2s opIx (eV 1) (eK (.int 4))) aN))))) sNil) (sSeq (sSet 2 (eMeth "Wood" "turned" g_Wood_turned (eV 0) (aC (e2s opIx (eV 1) (eK (.int 4))) aN))) (sSeq (sSet 3 (eMeth "Wood" "turned" g_Wood_turned (eV 0) (aC (e2s opIx (eV 1) (eK (.int 2))) aN))) (sRet (eTup (aC (eV 2) (aC (e2s opIx (eV 1) (eK (.int 3))) (aC (eV 3) aN))))))))
def g_parts : G := bodyF 4 2 c_parts
def c_lifted_left : C :=
 (sSeq (sSet 4 (eCall g_parts (aC (eV 0) (aC (eV 1) aN)))) (sSeq (sIf (bE (e2 opGe (eCall g_height (aC (e2s opIx (eV 4) (eK (.int 0))) aN)) (eCall g_height (aC (e2s opIx (eV 4) (eK (.int 2))) aN)))) (sRet (eMeth "Wood" "node" g_Wood_node (eV 0) (aC (e2s opIx (eV 4) (eK (.int 0))) (aC (e2s opIx (eV 4) (eK (.int 1))) (aC (eMeth "Wood" "node" g_Wood_node (eV 0) (aC (e2s opIx (eV 4) (eK (.int 2))) (aC (eV 2) (aC (eV 3) aN)))) aN))))) sNil) (sSeq (sSet 5 (eCall g_parts (aC (eV 0) (aC (e2s opIx (eV 4) (eK (.int 2))) aN)))) (sSeq (sSet 6 (eMeth "Wood" "node" g_Wood_node (eV 0) (aC (e2s opIx (eV 4) (eK (.int 0))) (aC (e2s opIx (eV 4) (eK (.int 1))) (aC (e2s opIx (eV 5) (eK (.int 0))) aN))))) (sSeq (sSet 7 (eMeth "Wood" "node" g_Wood_node (eV 0) (aC (e2s opIx (eV 5) (eK (.int 2))) (aC (eV 2) (aC (eV 3) aN))))) (sRet (eMeth "Wood" "node" g_Wood_node (eV 0) (aC (eV 6) (aC (e2s opIx (eV 5) (eK (.int 1))) (aC (eV 7) aN))))))))))
def g_lifted_left : G := bodyF 8 4 c_lifted_left
def c_lifted_right : C :=
 (sSeq (sSet 4 (eCall g_parts (aC (eV 0) (aC (eV 3) aN)))) (sSeq (sIf (bE (e2 opGe (eCall g_height (aC (e2s opIx (eV 4) (eK (.int 2))) aN)) (eCall g_height (aC (e2s opIx (eV 4) (eK (.int 0))) aN)))) (sRet (eMeth "Wood" "node" g_Wood_node (eV 0) (aC (eMeth "Wood" "node" g_Wood_node (eV 0) (aC (eV 1) (aC (eV 2) (aC (e2s opIx (eV 4) (eK (.int 0))) aN)))) (aC (e2s opIx (eV 4) (eK (.int 1))) (aC (e2s opIx (eV 4) (eK (.int 2))) aN))))) sNil) (sSeq (sSet 5 (eCall g_parts (aC (eV 0) (aC (e2s opIx (eV 4) (eK (.int 0))) aN)))) (sSeq (sSet 6 (eMeth "Wood" "node" g_Wood_node (eV 0) (aC (eV 1) (aC (eV 2) (aC (e2s opIx (eV 5) (eK (.int 0))) aN))))) (sSeq (sSet 7 (eMeth "Wood" "node" g_Wood_node (eV 0) (aC (e2s opIx (eV 5) (eK (.int 2))) (aC (e2s opIx (eV 4) (eK (.int 1))) (aC (e2s opIx (eV 4) (eK (.int 2))) aN))))) (sRet (eMeth "Wood" "node" g_Wood_node (eV 0) (aC (eV 6) (aC (e2s opIx (eV 5) (eK (.int 1))) (aC (eV 7) aN))))))))))
def g_lifted_right : G := bodyF 8 4 c_lifted_right
def c_balanced : C :=
 (sSeq (sIf (bE (eCall g_in_balance (aC (eV 1) (aC (eV 3) aN)))) (sRet (eMeth "Wood" "node" g_Wood_node (eV 0) (aC (eV 1) (aC (eV 2) (aC (eV 3) aN))))) sNil) (sSeq (sIf (bE (e2 opGt (eCall g_height (aC (eV 1) aN)) (eCall g_height (aC (eV 3) aN)))) (sRet (eCall g_lifted_left (aC (eV 0) (aC (eV 1) (aC (eV 2) (aC (eV 3) aN)))))) sNil) (sRet (eCall g_lifted_right (aC (eV 0) (aC (eV 1) (aC (eV 2) (aC (eV 3) aN))))))))
def g_balanced : G := bodyF 4 4 c_balanced
def c_put_in (self : G) : C :=
 (sSeq (sIf (bE (e2 opIs (eV 1) (eK .non))) (sRet (eMeth "Wood" "node" g_Wood_node (eV 0) (aC (eK .non) (aC (eV 3) (aC (eK .non) aN))))) sNil) (sSeq (sSet 4 (eCall g_parts (aC (eV 0) (aC (eV 1) aN)))) (sSeq (sSet 5 (eCall g_size (aC (e2s opIx (eV 4) (eK (.int 0))) aN))) (sSeq (sIf (bE (e2 opLe (eV 2) (eV 5))) (sRet (eCall g_balanced (aC (eV 0) (aC (eCall (self) (aC (eV 0) (aC (e2s opIx (eV 4) (eK (.int 0))) (aC (eV 2) (aC (eV 3) aN))))) (aC (e2s opIx (eV 4) (eK (.int 1))) (aC (e2s opIx (eV 4) (eK (.int 2))) aN)))))) sNil) (sRet (eCall g_balanced (aC (eV 0) (aC (e2s opIx (eV 4) (eK (.int 0))) (aC (e2s opIx (eV 4) (eK (.int 1))) (aC (eCall (self) (aC (eV 0) (aC (e2s opIx (eV 4) (eK (.int 2))) (aC (e2 opSub (e2 opSub (eV 2) (eV 5)) (eK (.int 1))) (aC (eV 3) aN))))) aN))))))))))
def g_put_in : Nat → G
 | 0 => fun _ _ => none
 | k + 1 => bodyF 6 4 (c_put_in (g_put_in k))
def c_put : C :=
 (sSeq (sDrop (eCall g_check_place (aC (eV 2) (aC (e2 opAdd (eCall g_size (aC (eV 1) aN)) (eK (.int 1))) aN)))) (sSeq (sDrop (eCall g_check_room (aC (e2 opAdd (eCall g_size (aC (eV 1) aN)) (eK (.int 1))) aN))) (sRet (eCall (g_put_in 40) (aC (eV 0) (aC (eV 1) (aC (eV 2) (aC (eV 3) aN))))))))
def g_put : G := bodyF 4 4 c_put
def c_added : C :=
 (sSeq (sSet 4 (eCall g_place_of (aC (eV 1) (aC (eV 2) (aC (eV 3) aN))))) (sSeq (sIf (bE (eCall g_is_alike_at (aC (eV 1) (aC (eV 4) (aC (eV 2) (aC (eV 3) aN)))))) (sRet (eV 1)) sNil) (sRet (eCall g_put (aC (eV 0) (aC (eV 1) (aC (eV 4) (aC (eV 2) aN))))))))
def g_added : G := bodyF 5 4 c_added
end
end Pg
set_option maxHeartbeats 4000000
namespace Pg
open PySem L2 F Mt
class Kd (k : Nat) : Prop where
 ne : k = 0
variable {k : Nat} [Kd k] {S : Sto}
def fnm (_ : Nat) : Str := ""
def addv (k : Nat) : D := if k = 0 then .non else .fn (fnm k)
theorem add_ok {x y : D} {n m : Nat} (hx : Th k n x) (hy : Th k m y) (hn : n + m ≤ 4000) : ∃ g,ft (fnm k) = some g ∧ ∀ S,g [x,y] S = some (ad k x y,S) := by
 have h4 := Kd.ne (k := k)
 subst h4
 exact hx.elim
end Pg
set_option maxHeartbeats 4000000
namespace Pg
open PySem L2 F Mt
variable {k : Nat} [Kd k] {d l r t : D} {ts lt rt : List D} {h lh rh : Nat} {S S1 : Sto} {ev e : Ev}
theorem size_t (a b c d e f g h i : D) (S : Sto) : g_size [.tup [a,b,c,d,e,f,g,h,i]] S = some (f,S) := rfl
theorem height_t (a b c d e f g h i : D) (S : Sto) : g_height [.tup [a,b,c,d,e,f,g,h,i]] S = some (g,S) := rfl
theorem total_t (a b c d e f g h i : D) (S : Sto) : g_total [.tup [a,b,c,d,e,f,g,h,i]] S = some (h,S) := rfl
theorem back_t (a b c d e f g h i : D) (S : Sto) : g_back [.tup [a,b,c,d,e,f,g,h,i]] S = some (i,S) := rfl
theorem size_ok (m : Mk k d ts h) (S : Sto) : g_size [d] S = some (.int ts.length,S) := by
 cases m with
 | non => rfl
 | node _ _ _ _ _ => rw [mkD,size_t,ord_len]; simp; omega
theorem height_ok (m : Mk k d ts h) (S : Sto) : g_height [d] S = some (.int h,S) := by
 cases m with
 | non => rfl
 | node _ _ _ _ _ => rw [mkD,height_t]
theorem total_ok (m : Mk k d ts h) (S : Sto) : g_total [d] S = some (sumD k ts,S) := by
 cases m with
 | non => rfl
 | node _ _ _ _ _ => rw [mkD,total_t]
theorem back_ok (m : Mk k d ts h) (S : Sto) : g_back [d] S = some (sumD k ts.reverse,S) := by
 cases m with
 | non => rfl
 | node _ _ _ _ _ => rw [mkD,back_t]
theorem size_above_ok (ml : Mk k l lt lh) (mr : Mk k r rt rh) (S : Sto) : g_size_above [l,r] S = some (.int (lt.length + 1 + rt.length : Nat),S) := by
 simp [g_size_above,bodyF,c_size_above,sRet,e2,eCall,aC,aN,eV,eK,opAdd,size_ok ml,size_ok mr]
theorem height_above_ok (ml : Mk k l lt lh) (mr : Mk k r rt rh) (S : Sto) : g_height_above [l,r] S = some (.int (max lh rh + 1 : Nat),S) := by
 simp [g_height_above,bodyF,c_height_above,sRet,e2,eCall,aC,aN,eV,eK,opAdd,eA,maxD,height_ok ml,height_ok mr]
 split <;> omega
theorem in_balance_ok (ml : Mk k l lt lh) (mr : Mk k r rt rh) (S : Sto) : g_in_balance [l,r] S = some (.bl (decide (lh ≤ rh + 1 ∧ rh ≤ lh + 1)),S) := by
 simp [g_in_balance,bodyF,c_in_balance,sRet,e2,eCall,aC,aN,eV,eK,opSub,opLe,F.opI,opIB,eA,absD,height_ok ml,height_ok mr]
 rw [Bool.eq_iff_iff]
 simp
 split <;> omega
theorem addV_e {a b : E} {x y : D} {n m : Nat} (hk : k ≠ 0) (h0 : ev[0]? = some (some (addv k))) (ha : a ev S = some (x,S)) (hb : b ev S = some (y,S)) (hx : Th k n x) (hy : Th k m y) (hn : n + m ≤ 4000) : eCallW ft lamt (eV 0) (aC a (aC b aN)) ev S = some (ad k x y,S) := by
 obtain ⟨g,hg,hc⟩ := add_ok hx hy hn
 have hav : addv k = .fn (fnm k) := by simp [addv,hk]
 unfold eCallW
 rw [e_v h0]
 simp only [Option.bind_some,hav,hg,a_c ha (a_c hb a_n),hc]
theorem along_ok {gs : G} {w : E → E} {p q : Nat} {x y : D} {xt yt : List D} (hk : k ≠ 0) (ht : Thing k t) (hn : xt.length + 1 + yt.length ≤ 2000) (hx : ∀ z ∈ xt,Thing k z) (hy : ∀ z ∈ yt,Thing k z) (ex : x = .non ∧ xt = [] ∨ xt ≠ [] ∧ ∃ xs,x = .tup xs) (ey : y = .non ∧ yt = [] ∨ yt ≠ [] ∧ ∃ ys,y = .tup ys)
   (ev0 : Ev) (S : Sto) (e0 : ev0[0]? = some (some (addv k))) (et : ev0[2]? = some (some t)) (ep : ev0[p]? = some (some x)) (eq : ev0[q]? = some (some y)) (hl : ev0.length = 5) (hp : p < 4) (hq : q < 4) (hx' : ∀ ev : Ev,ev[p]? = some (some x) → w (eV p) ev S = some (sumD k xt,S)) (hy' : ∀ ev : Ev,ev[q]? = some (some y) → w (eV q) ev S = some (sumD k yt,S)) :
   sSeq (sSet 4 (eV 2)) (sSeq (sIf (bE (e2 opIsNot (eV p) (eK .non))) (sSet 4 (eCallW ft lamt (eV 0) (aC (w (eV p)) (aC (eV 4) aN)))) sNil) (sSeq (sIf (bE (e2 opIsNot (eV q) (eK .non))) (sSet 4 (eCallW ft lamt (eV 0) (aC (eV 4) (aC (w (eV q)) aN)))) sNil) (sRet (eV 4)))) ev0 S = some (.rt (sumD k (xt ++ t :: yt)),S) := by
 have tt := ht.th hk
 have g4 : ∀ (d : D) (i : Nat),i < 4 → (ev0.set 4 (some d))[i]? = ev0[i]? := fun d i hi => List.getElem?_set_ne (by omega)
 have s4 : ∀ (ev : Ev) (d : D),ev.length = 5 → (ev.set 4 (some d))[4]? = some (some d) := fun ev d h => List.getElem?_set_self (by omega)
 have ss : ∀ (d e : D),(ev0.set 4 (some d)).set 4 (some e) = ev0.set 4 (some e) := fun d e => by simp
 have step2 : ∀ (acc : D) (n : Nat),Th k n acc → n + yt.length ≤ 2000 → ∀ {res : D},(yt = [] → res = acc) → (yt ≠ [] → res = ad k acc (sumD k yt)) →
     sSeq (sIf (bE (e2 opIsNot (eV q) (eK .non))) (sSet 4 (eCallW ft lamt (eV 0) (aC (eV 4) (aC (w (eV q)) aN)))) sNil) (sRet (eV 4)) (ev0.set 4 (some acc)) S = some (.rt res,S) := by
   intro acc n ha hb res r1 r2
   rcases ey with ⟨e1,e2'⟩ | ⟨e1,ys,e2'⟩
   · rw [r1 e2']
     exact st_seq (st_pass (b_of (e_2 (e_v (by rw [g4 _ _ hq,eq])) e_k (by rw [e1]; rfl)))) (st_ret (e_v (s4 _ _ hl)))
   · rw [r2 e1]
     refine st_seq (st_then (b_of (e_2 (e_v (by rw [g4 _ _ hq,eq])) e_k (by rw [e2']; rfl))) (st_set (addV_e hk (by rw [g4 _ _ (by decide),e0]) (e_v (s4 _ _ hl)) (hy' _ (by rw [g4 _ _ hq,eq])) ha (th_sum hk e1 hy) (by omega)))) (st_ret (e_v ?_))
     rw [ss]; exact s4 _ _ hl
 refine st_seq (st_set (e_v et)) ?_
 rcases ex with ⟨e1,e2'⟩ | ⟨e1,xs,e2'⟩
 · subst e2'
   refine st_seq (st_pass (b_of (e_2 (e_v (by rw [g4 _ _ hp,ep])) e_k (by rw [e1]; rfl)))) (step2 t 1 tt (by simp at hn; omega) (fun z => by rw [z,List.nil_append,sumD_one hk]) fun z => ?_)
   rw [List.nil_append,show t :: yt = [t] ++ yt from rfl,sumD_append hk (by simp) z,sumD_one hk]
 · have t1 := th_sum hk e1 hx
   have e3 : sumD k (xt ++ [t]) = ad k (sumD k xt) t := by rw [sumD_append hk e1 (by simp),sumD_one hk]
   refine st_seq (st_then (b_of (e_2 (e_v (by rw [g4 _ _ hp,ep])) e_k (by rw [e2']; rfl))) (st_set (addV_e hk (by rw [g4 _ _ (by decide),e0]) (hx' _ (by rw [g4 _ _ hp,ep])) (e_v (s4 _ _ hl)) t1 tt (by omega)))) ?_
   rw [ss]
   exact step2 _ _ (t1.ad tt) (by omega) (fun z => by rw [z,e3]) fun z => by rw [show xt ++ t :: yt = (xt ++ [t]) ++ yt by simp,sumD_append hk (by simp) z,e3]
theorem nil_or {xs : List D} (m : Mk k d ts h) : d = .non ∧ ts = [] ∨ ts ≠ [] ∧ ∃ xs,d = .tup xs := by
 cases m with
 | non => exact .inl ⟨rfl,rfl⟩
 | node _ _ _ _ _ => exact .inr ⟨by intro z; have := congrArg List.length z; rw [ord_len] at this; simp at this,_,rfl⟩
theorem onward_ok (hk : k ≠ 0) (ml : Mk k l lt lh) (mr : Mk k r rt rh) (ht : Thing k t) (hn : lt.length + 1 + rt.length ≤ 2000) (S : Sto) :
   g_onward_sum [addv k,l,t,r] S = some (sumD k (lt ++ t :: rt),S) :=
 b_rt rfl (along_ok (w := fun x => eCall g_total (aC x aN)) (p := 1) (q := 3) (gs := g_total) hk ht hn ml.things mr.things (nil_or (xs := []) ml) (nil_or (xs := []) mr) _ S rfl rfl rfl rfl rfl (by decide) (by decide) (fun ev h => e_call (a_c (e_v h) a_n) (total_ok ml S)) (fun ev h => e_call (a_c (e_v h) a_n) (total_ok mr S)))
theorem backward_ok (hk : k ≠ 0) (ml : Mk k l lt lh) (mr : Mk k r rt rh) (ht : Thing k t) (hn : lt.length + 1 + rt.length ≤ 2000) (S : Sto) :
   g_backward_sum [addv k,l,t,r] S = some (sumD k (lt ++ t :: rt).reverse,S) := by
 have rev : (lt ++ t :: rt).reverse = rt.reverse ++ t :: lt.reverse := by simp
 have no : ∀ {d : D} {ts : List D},(d = .non ∧ ts = [] ∨ ts ≠ [] ∧ ∃ xs,d = .tup xs) → (d = .non ∧ ts.reverse = [] ∨ ts.reverse ≠ [] ∧ ∃ xs,d = .tup xs) := fun h => by simpa using h
 rw [rev]
 exact b_rt rfl (along_ok (w := fun x => eCall g_back (aC x aN)) (p := 3) (q := 1) (gs := g_total) hk ht (by simp; omega) (fun z hz => mr.things z (List.mem_reverse.mp hz)) (fun z hz => ml.things z (List.mem_reverse.mp hz)) (no (nil_or (xs := []) mr)) (no (nil_or (xs := []) ml)) _ S rfl rfl rfl rfl rfl (by decide) (by decide) (fun ev h => e_call (a_c (e_v h) a_n) (back_ok mr S)) (fun ev h => e_call (a_c (e_v h) a_n) (back_ok ml S)))
theorem sums_above_ok (ml : Mk k l lt lh) (mr : Mk k r rt rh) (ht : Thing k t) (hn : lt.length + 1 + rt.length ≤ 2000) (S : Sto) :
   g_sums_above [addv k,l,t,r] S = some (.tup [sumD k (lt ++ t :: rt),sumD k (lt ++ t :: rt).reverse],S) := by
 by_cases hk : k = 0
 · subst hk
   simp [g_sums_above,bodyF,c_sums_above,addv,sSeq,sIf,sRet,bE,e2,eV,eK,opIs,isNon,eTup,eA,aC,aN,two_le,sumD_zero]
 · have o := onward_ok hk ml mr ht hn
   have b := backward_ok hk ml mr ht hn
   have hav : addv k = .fn (fnm k) := by simp [addv,hk]
   rw [hav] at o b ⊢
   simp only [g_sums_above,bodyF,c_sums_above]
   simp [sSeq,sIf,sRet,sNil,bE,e2,eV,eK,opIs,isNon,eTup,eA,aC,aN,two_le,eCall,o,b]
def wd (ad : D) (n : Int) : MO := .ins "Wood" [("adding",ad),("nodes_made",.int n)]
theorem na : ((Str.ofString "nodes_made") == (Str.ofString "adding")) = false := by decide +kernel
theorem na' : ¬ (Str.ofString "adding" = Str.ofString "nodes_made") := by decide +kernel
theorem na2 : ((Str.ofString "numbered") == (Str.ofString "adding")) = false := by decide +kernel
theorem na3 : ((Str.ofString "numbered") == (Str.ofString "nodes_made")) = false := by decide +kernel
theorem na4 : ((Str.ofString "node") == (Str.ofString "adding")) = false := by decide +kernel
theorem na5 : ((Str.ofString "node") == (Str.ofString "nodes_made")) = false := by decide +kernel
theorem na8 : ((Str.ofString "turned") == (Str.ofString "adding")) = false := by decide +kernel
theorem na9 : ((Str.ofString "turned") == (Str.ofString "nodes_made")) = false := by decide +kernel
theorem numbered_ok {i : Nat} {av : D} {n : Int} {xs : List D} (h : S[i]? = some (wd av n)) (hl : 1 + xs.length ≤ sizeLine) :
   g_Wood_numbered [.obj i,.tup xs] S = some (.tup (.int n :: xs),S.set i (wd av (n + 1))) := by
 have h1 : (1 : Nat) ≤ sizeLine := by decide
 unfold wd at h ⊢
 simp [g_Wood_numbered,bodyF,c_Wood_numbered,sSeq,sSet,eFld,eV,insAt,h,sFldS,e2,opAdd,eK,sRet,eTup,aC,aN,eA,putD,List.lookup,na,na',hl,h1]
def wfs (av : D) (n : Int) : List (Str × D) := [("adding",av),("nodes_made",.int n)]
theorem insAt_wd {i : Nat} {av : D} {n : Int} (h : S[i]? = some (wd av n)) : insAt (Str.ofString "Wood") S (.obj i) = some (i,wfs av n) := by
 simp [insAt,h,wd,wfs]
theorem wl_node (av : D) (n : Int) : (wfs av n).lookup (Str.ofString "node") = none := by simp [wfs,List.lookup,na4,na5]
theorem wl_turned (av : D) (n : Int) : (wfs av n).lookup (Str.ofString "turned") = none := by simp [wfs,List.lookup,na8,na9]
theorem wl_adding (av : D) (n : Int) : (wfs av n).lookup (Str.ofString "adding") = some av := by simp [wfs,List.lookup]
theorem wl_numbered (av : D) (n : Int) : (wfs av n).lookup (Str.ofString "numbered") = none := by simp [wfs,List.lookup,na2,na3]
theorem st_drop {f : E} (h : f ev S = some (d,S1)) : sDrop f ev S = some (.nx ev,S1) := by simp [sDrop,h]
theorem b_nx {N n : Nat} {c : C} {ds : List D} {S S' : Sto} {e : Ev} (hl : ds.length = n) (h : c (ds.map some ++ List.replicate (N - ds.length) none) S = some (.nx e,S')) : bodyF N n c ds S = some (.non,S') := by
 unfold bodyF; rw [if_pos hl,h]
theorem gt_no {x y : Int} (h : x ≤ y) : opGt (.int x) (.int y) = some (.bl false) := by
 show some (D.bl (decide (y < x))) = _
 rw [decide_eq_false (by omega)]
theorem room_ok {m : Nat} (h : m ≤ 2000) (S : Sto) : g_check_room [.int m] S = some (.non,S) := b_nx rfl (st_pass (b_of (e_2 (e_v rfl) e_k (gt_no (by omega)))))
theorem node_ok {i : Nat} {n : Int} (h : S[i]? = some (wd (addv k) n)) (ml : Mk k l lt lh) (mr : Mk k r rt rh) (ht : Thing k t) (h1 : lh ≤ rh + 1) (h2 : rh ≤ lh + 1) (hn : lt.length + 1 + rt.length ≤ 2000) :
   g_Wood_node [.obj i,l,t,r] S = some (mkD n false l t r (lt.length + 1 + rt.length : Nat) (max lh rh + 1 : Nat) (sumD k (lt ++ t :: rt)) (sumD k (lt ++ t :: rt).reverse),S.set i (wd (addv k) (n + 1))) := by
 have hz : sizeLine = 16777216 := sizeLine_eq
 have q := size_above_ok ml mr S
 have b := in_balance_ok ml mr S
 have hh := height_above_ok ml mr S
 have sa := sums_above_ok ml mr ht hn S
 rw [decide_eq_true (show lh ≤ rh + 1 ∧ rh ≤ lh + 1 from ⟨h1,h2⟩)] at b
 exact b_rt rfl (st_seq (st_set (e_call (a_c (e_v rfl) (a_c (e_v rfl) a_n)) q)) (st_seq (st_drop (e_call (a_c (e_v rfl) a_n) (room_ok hn S))) (st_seq (st_pass (b_nT (b_of (e_call (a_c (e_v rfl) (a_c (e_v rfl) a_n)) b)))) (st_seq (st_set (e_tup (a_c (e_v rfl) (a_c (e_call (a_c (e_v rfl) (a_c (e_v rfl) a_n)) hh) a_n)) (by simp))) (st_seq (st_set (e_call (a_c (e_fld (e_v rfl) (insAt_wd h) (wl_adding _ _)) (a_c (e_v rfl) (a_c (e_v rfl) (a_c (e_v rfl) a_n)))) sa)) (st_ret (e_meth (e_v rfl) (insAt_wd h) (wl_numbered _ _) (a_c (e_2 (e_2 (e_tup (a_c e_k (a_c (e_v rfl) (a_c (e_v rfl) (a_c (e_v rfl) a_n)))) (by simp)) (e_v rfl) (add_tup (by simp))) (e_v rfl) (add_tup (by simp))) a_n) (numbered_ok h (by simp; omega)))))))))
theorem node_mk {n : Int} (ml : Mk k l lt lh) (mr : Mk k r rt rh) (ht : Thing k t) (h1 : lh ≤ rh + 1) (h2 : rh ≤ lh + 1) :
   Mk k (mkD n false l t r (lt.length + 1 + rt.length : Nat) (max lh rh + 1 : Nat) (sumD k (lt ++ t :: rt)) (sumD k (lt ++ t :: rt).reverse)) (lt ++ t :: rt) (max lh rh + 1) := by
 have := Mk.node (num := n) (a := false) ml mr ht h1 h2
 simpa [ord] using this
theorem turned_non {i : Nat} : g_Wood_turned [.obj i,.non] S = some (.non,S) := rfl
theorem turned_t {i : Nat} {n num : Int} {av : D} {a : Bool} {sz ht : Int} {to ba : D} (h : S[i]? = some (wd av n)) :
   g_Wood_turned [.obj i,mkD num a l t r sz ht to ba] S = some (mkD n (!a) l t r sz ht ba to,S.set i (wd av (n + 1))) := by
 have hz : sizeLine = 16777216 := sizeLine_eq
 unfold mkD
 exact b_rt rfl (st_seq (st_pass (b_of (e_2 (e_v rfl) e_k rfl))) (st_seq (st_set (e_tup (a_c (e_2s (e_v rfl) e_k rfl) (a_c (e_2s (e_v rfl) e_k rfl) (a_c (e_2s (e_v rfl) e_k rfl) a_n))) (by simp))) (st_ret (e_meth (e_v rfl) (insAt_wd h) (wl_numbered _ _) (a_c (e_2 (e_2 (e_tup (a_c (e_not (e_2s (e_v rfl) e_k rfl)) a_n) (by simp)) (e_v rfl) (add_tup (by simp))) (e_tup (a_c (e_call (a_c (e_v rfl) a_n) (size_t _ _ _ _ _ _ _ _ _ _)) (a_c (e_call (a_c (e_v rfl) a_n) (height_t _ _ _ _ _ _ _ _ _ _)) (a_c (e_call (a_c (e_v rfl) a_n) (back_t _ _ _ _ _ _ _ _ _ _)) (a_c (e_call (a_c (e_v rfl) a_n) (total_t _ _ _ _ _ _ _ _ _ _)) a_n)))) (by simp)) (add_tup (by simp))) a_n) (numbered_ok h (by simp; omega))))))
theorem turned_mk {num n : Int} {a : Bool} {sz ht : Int} {to ba : D} (m : Mk k (mkD num a l t r sz ht to ba) ts h) : Mk k (mkD n (!a) l t r sz ht ba to) ts.reverse h := by
 generalize hd : mkD num a l t r sz ht to ba = d at m
 cases m with
 | non => cases hd
 | @node num' a' l' t' r' lt rt lh rh ml mr ht' h1 h2 =>
   unfold mkD at hd
   injection hd with hd
   simp only [List.cons.injEq,D.int.injEq,D.bl.injEq,and_true] at hd
   obtain ⟨rfl,rfl,rfl,rfl,rfl,rfl,rfl,rfl,rfl⟩ := hd
   have := Mk.node (num := n) (a := !a) ml mr ht' h1 h2
   have e : ord (!a) (lt ++ t :: rt) = (ord a (lt ++ t :: rt)).reverse := by
     cases a <;> simp [ord]
   rw [e,List.reverse_reverse] at this
   exact this
theorem form_ok (num : Int) (a : Bool) (l t r : D) (sz ht : Int) (to ba : D) (S : Sto) : g_has_form [mkD num a l t r sz ht to ba] S = some (.bl true,S) := rfl
theorem measures_ok {num : Int} {a : Bool} {to ba : D} (ml : Mk k l lt lh) (mr : Mk k r rt rh) (h1 : lh ≤ rh + 1) (h2 : rh ≤ lh + 1) (S : Sto) :
   g_has_right_measures [mkD num a l t r (lt.length + 1 + rt.length : Nat) (max lh rh + 1 : Nat) to ba] S = some (.bl true,S) := by
 have q := size_above_ok ml mr
 have b := in_balance_ok ml mr
 have hh := height_above_ok ml mr
 have hb : decide (lh ≤ rh + 1 ∧ rh ≤ lh + 1) = true := by simp; omega
 rw [hb] at b
 generalize ((lt.length + 1 + rt.length : Nat) : Int) = z at q ⊢
 generalize ((max lh rh + 1 : Nat) : Int) = y at hh ⊢
 unfold mkD
 simp [g_has_right_measures,bodyF,c_has_right_measures,sSeq,sSet,sIf,sRet,sNil,bE,bNot,e2,e2s,eV,eK,eCall,aC,aN,opIx,ix9_2,ix9_4,ix9_5,ix9_6,b,q,hh,eAnd,eq_int]
theorem sums_ok {num : Int} {a : Bool} {sz hh : Int} (ml : Mk k l lt lh) (mr : Mk k r rt rh) (ht : Thing k t) (hn : lt.length + 1 + rt.length ≤ 2000) (S : Sto) :
   g_has_right_sums [mkD num a l t r sz hh (sumD k (ord a (lt ++ t :: rt))) (sumD k (ord a (lt ++ t :: rt)).reverse),addv k] S = some (.bl true,S) := by
 have sa := sums_above_ok ml mr ht hn
 have th : ∀ x ∈ lt ++ t :: rt,Thing k x := fun x hx => by
   rcases List.mem_append.mp hx with q | q
   · exact ml.things x q
   · rcases List.mem_cons.mp q with rfl | q
     · exact ht
     · exact mr.things x q
 have e1 := eq_sum th
 have e2' := eq_sum (k := k) (ts := (lt ++ t :: rt).reverse) fun x hx => th x (List.mem_reverse.mp hx)
 have i0 : ∀ x y : D,atI [x,y] (0 : Int) = some x := fun _ _ => rfl
 have i1 : ∀ x y : D,atI [x,y] (1 : Int) = some y := fun _ _ => rfl
 cases a
 · simp only [ord,Bool.false_eq_true,if_false]
   generalize sumD k (lt ++ t :: rt) = s1 at sa e1 ⊢
   generalize sumD k (lt ++ t :: rt).reverse = s2 at sa e2' ⊢
   unfold mkD
   simp only [g_has_right_sums,bodyF,c_has_right_sums]
   simp [sSeq,sSet,sIf,sRet,sNil,bE,bNot,e2,e2s,eV,eK,eCall,aC,aN,opIx,ix9_1,ix9_2,ix9_3,ix9_4,ix9_7,ix9_8,sa,eAnd,e1,e2',i0,i1]
 · simp only [ord,if_true,List.reverse_reverse]
   generalize sumD k (lt ++ t :: rt) = s1 at sa e1 ⊢
   generalize sumD k (lt ++ t :: rt).reverse = s2 at sa e2' ⊢
   unfold mkD
   simp only [g_has_right_sums,bodyF,c_has_right_sums]
   simp [sSeq,sSet,sIf,sRet,sNil,bE,bNot,e2,e2s,eV,eK,eCall,aC,aN,opIx,ix9_1,ix9_2,ix9_3,ix9_4,ix9_7,ix9_8,sa,eAnd,e1,e2',i0,i1]
theorem is_right_ok (m : Mk k d ts h) : ∀ {n : Nat},h < n → ts.length ≤ 2000 → ∀ S,g_is_right n [d,addv k] S = some (.bl true,S) := by
 induction m with
 | non =>
   intro n hn _ S
   cases n with
   | zero => omega
   | succ n => rfl
 | @node num a l t r lt rt lh rh ml mr ht h1 h2 il ir =>
   intro n hn hl S
   cases n with
   | zero => omega
   | succ n =>
     rw [ord_len] at hl
     simp only [List.length_append,List.length_cons] at hl
     have el := il (n := n) (by omega) (by omega) S
     have er := ir (n := n) (by omega) (by omega) S
     have me := measures_ok (num := num) (a := a) (t := t) (to := sumD k (ord a (lt ++ t :: rt))) (ba := sumD k (ord a (lt ++ t :: rt)).reverse) ml mr h1 h2 S
     have su := sums_ok (num := num) (a := a) (sz := (lt.length + 1 + rt.length : Nat)) (hh := (max lh rh + 1 : Nat)) ml mr ht (by omega) S
     have fo := form_ok num a l t r (lt.length + 1 + rt.length : Nat) (max lh rh + 1 : Nat) (sumD k (ord a (lt ++ t :: rt))) (sumD k (ord a (lt ++ t :: rt)).reverse) S
     unfold mkD at me su fo ⊢
     exact b_rt rfl (st_seq (st_pass (b_of (e_2 (e_v rfl) e_k rfl))) (st_seq (st_pass (b_nT (b_of (e_call (a_c (e_v rfl) a_n) fo)))) (st_seq (st_pass (b_orF (b_nT (b_of (e_call (a_c (e_2s (e_v rfl) e_k rfl) (a_c (e_v rfl) a_n)) el))) (b_nT (b_of (e_call (a_c (e_2s (e_v rfl) e_k rfl) (a_c (e_v rfl) a_n)) er))))) (st_ret (e_andT (e_call (a_c (e_v rfl) a_n) me) (e_call (a_c (e_v rfl) (a_c (e_v rfl) a_n)) su))))))
theorem wood_init (S : Sto) (av : D) : g_Wood___init__ [.obj S.length,av] (S ++ [.ins (Str.ofString "Wood") []]) = some (.non,S ++ [wd av 0]) := by
 have q1 : (S ++ [MO.ins (Str.ofString "Wood") []])[S.length]? = some (MO.ins (Str.ofString "Wood") []) := by simp
 have q2 : ∀ a b : MO,(S ++ [a]).set S.length b = S ++ [b] := by intro a b; simp
 have q3 : ∀ a : MO,(S ++ [a])[S.length]? = some a := by intro a; simp
 simp [g_Wood___init__,bodyF,c_Wood___init__,sSeq,sFldS,eV,eK,insAt,putD,na',wd,q1,q2,q3]
theorem wood_e0 : eMake (Str.ofString "Wood") (dflt 1 g_Wood___init__) aN ev S = some (.obj S.length,S ++ [wd .non 0]) := by
 have := wood_init S .non
 simp [eMake,aN,dflt,this]
inductive Tnd (n : Int) : D → D → Int → Prop where
 | non : Tnd n .non .non n
 | node {num : Int} {a : Bool} {l t r : D} {sz ht : Int} {to ba : D} : Tnd n (mkD num a l t r sz ht to ba) (mkD n (!a) l t r sz ht ba to) (n + 1)
structure At (S S' : Sto) (i : Nat) (av : D) (n n' : Int) : Prop where
 at_ : S'[i]? = some (wd av n')
 le : n ≤ n'
 ne : ∀ j,j ≠ i → S'[j]? = S[j]?
 len : S'.length = S.length
theorem At.refl {i : Nat} {av : D} {n : Int} (h : S[i]? = some (wd av n)) : At S S i av n n := ⟨h,Int.le_refl _,fun _ _ => rfl,rfl⟩
theorem At.set {i : Nat} {av : D} {n n' : Int} (h : S[i]? = some (wd av n)) (hn : n ≤ n') : At S (S.set i (wd av n')) i av n n' := ⟨set_at h,hn,fun j hj => set_ne (Ne.symm hj) _,by simp⟩
theorem At.trans {S2 : Sto} {i : Nat} {av : D} {n n' n'' : Int} (a : At S S1 i av n n') (b : At S1 S2 i av n' n'') : At S S2 i av n n'' := ⟨b.at_,Int.le_trans a.le b.le,fun j hj => (b.ne j hj).trans (a.ne j hj),b.len.trans a.len⟩
theorem turned_any {i : Nat} {av : D} {n : Int} (m : Mk k d ts h) (hw : S[i]? = some (wd av n)) : ∃ d' n' S',g_Wood_turned [.obj i,d] S = some (d',S') ∧ Mk k d' ts.reverse h ∧ Tnd n d d' n' ∧ At S S' i av n n' := by
 have m0 := m
 cases m with
 | non => exact ⟨.non,n,S,turned_non,.non,.non,At.refl hw⟩
 | node ml mr ht h1 h2 => exact ⟨_,_,_,turned_t hw,turned_mk m0,.node,At.set hw (by omega)⟩
theorem parts_ok {i : Nat} {n num : Int} {av : D} {a : Bool} {sz ht : Int} {to ba : D} (m : Mk k (mkD num a l t r sz ht to ba) ts h) (hw : S[i]? = some (wd av n)) :
   ∃ x y n' S' xt yt xh yh,g_parts [.obj i,mkD num a l t r sz ht to ba] S = some (.tup [x,t,y],S') ∧ At S S' i av n n' ∧ Mk k x xt xh ∧ Mk k y yt yh ∧ ts = xt ++ t :: yt ∧ h = max xh yh + 1 ∧ xh ≤ yh + 1 ∧ yh ≤ xh + 1 ∧ Thing k t ∧
     ((a = false ∧ x = l ∧ y = r ∧ n' = n ∧ S' = S) ∨ (a = true ∧ ∃ n1,Tnd n r x n1 ∧ Tnd n1 l y n')) := by
 have hs : (3 : Nat) ≤ 16777216 := by decide
 generalize hd : mkD num a l t r sz ht to ba = d at m
 cases m with
 | non => cases hd
 | @node num' a' l' t' r' lt rt lh rh ml mr ht' h1 h2 =>
   unfold mkD at hd
   injection hd with hd
   simp only [List.cons.injEq,D.int.injEq,D.bl.injEq,and_true] at hd
   obtain ⟨rfl,rfl,rfl,rfl,rfl,rfl,rfl,rfl,rfl⟩ := hd
   generalize ((lt.length + 1 + rt.length : Nat) : Int) = sz
   generalize ((max lh rh + 1 : Nat) : Int) = hh
   generalize sumD k (ord a (lt ++ t :: rt)) = to
   generalize sumD k (ord a (lt ++ t :: rt)).reverse = ba
   cases a
   · refine ⟨l,r,n,S,lt,rt,lh,rh,?_,At.refl hw,ml,mr,rfl,rfl,h1,h2,ht',.inl ⟨rfl,rfl,rfl,rfl,rfl⟩⟩
     rfl
   · obtain ⟨x,n1,S1,c1,mx,t1,w1⟩ := turned_any mr hw
     obtain ⟨y,n2,S2,c2,my,t2,w2⟩ := turned_any ml w1.at_
     refine ⟨x,y,n2,S2,rt.reverse,lt.reverse,rh,lh,?_,w1.trans w2,mx,my,by simp [ord],by rw [Nat.max_comm],h2,h1,ht',.inr ⟨rfl,n1,t1,t2⟩⟩
     have f0 : bNot (bE (e2s opIx (eV 1) (eK (.int 1)))) [some (.obj i),some (.tup [.int num,.bl true,l,t,r,.int sz,.int hh,to,ba]),none,none] S = some (false,S) := rfl
     have f1 : sSet 2 (eMeth "Wood" "turned" g_Wood_turned (eV 0) (aC (e2s opIx (eV 1) (eK (.int 4))) aN)) [some (.obj i),some (.tup [.int num,.bl true,l,t,r,.int sz,.int hh,to,ba]),none,none] S = some (.nx [some (.obj i),some (.tup [.int num,.bl true,l,t,r,.int sz,.int hh,to,ba]),some x,none],S1) :=
       st_set (e_meth (e_v rfl) (insAt_wd hw) (wl_turned _ _) (a_c (e_2s (e_v rfl) e_k rfl) a_n) c1)
     have f2 : sSet 3 (eMeth "Wood" "turned" g_Wood_turned (eV 0) (aC (e2s opIx (eV 1) (eK (.int 2))) aN)) [some (.obj i),some (.tup [.int num,.bl true,l,t,r,.int sz,.int hh,to,ba]),some x,none] S1 = some (.nx [some (.obj i),some (.tup [.int num,.bl true,l,t,r,.int sz,.int hh,to,ba]),some x,some y],S2) :=
       st_set (e_meth (e_v rfl) (insAt_wd w1.at_) (wl_turned _ _) (a_c (e_2s (e_v rfl) e_k rfl) a_n) c2)
     have f3 : sRet (eTup (aC (eV 2) (aC (e2s opIx (eV 1) (eK (.int 3))) (aC (eV 3) aN)))) [some (.obj i),some (.tup [.int num,.bl true,l,t,r,.int sz,.int hh,to,ba]),some x,some y] S2 = some (.rt (.tup [x,t,y]),S2) := by
       unfold sRet
       rw [e_tup (a_c (e_v rfl) (a_c (e_2s (e_v rfl) e_k rfl) (a_c (e_v rfl) a_n))) (by simp)]
       rfl
     simp only [g_parts,bodyF,c_parts,mkD]
     simp only [List.length_cons,List.length_nil,Nat.reduceAdd,if_true,List.map_cons,List.map_nil,Nat.reduceSub,List.replicate,List.cons_append,List.nil_append]
     simp only [sSeq,sIf,f0,Option.bind_some,Bool.false_eq_true,if_false,sNil,f1,f2,f3]
end Pg
set_option maxHeartbeats 4000000
namespace Pg
open PySem L2 F Mt
variable {k : Nat} [Kd k] {d l r t x y : D} {ts lt rt : List D} {h lh rh i : Nat} {n : Int} {S S0 S1 : Sto} {ev e : Ev} {P Q : D → Prop} {a b new : List D}
def num : D → Int
 | .tup (.int n :: _) => n
 | _ => 0
inductive All (P : D → Prop) : D → Prop where
 | non : All P .non
 | node {m : Int} {a : Bool} {l t r : D} {sz ht : Int} {to ba : D} : P (mkD m a l t r sz ht to ba) → All P l → All P r → All P (mkD m a l t r sz ht to ba)
theorem All.inv {m : Int} {a : Bool} {sz ht : Int} {to ba : D} (h : All P (mkD m a l t r sz ht to ba)) : All P l ∧ All P r := by
 generalize e : mkD m a l t r sz ht to ba = d at h
 cases h with
 | non => cases e
 | node _ b c =>
   unfold mkD at e
   injection e with e
   simp only [List.cons.injEq,and_true] at e
   obtain ⟨_,_,rfl,_,rfl,_⟩ := e
   exact ⟨b,c⟩
theorem All.mono (h : All P d) (f : ∀ v,P v → Q v) : All Q d := by
 induction h with
 | non => exact .non
 | node a _ _ b c => exact .node (f _ a) b c
def Ac (P : D → Prop) (n : Int) (new : List D) (v : D) : Prop := P v ∨ ∃ j : Nat,new[j]? = some v ∧ num v = n + j
theorem Ac.app {v : D} (h : Ac P n a v) : Ac P n (a ++ b) v := h.imp id fun ⟨j,h1,h2⟩ => ⟨j,by rw [List.getElem?_append_left (List.getElem?_eq_some_iff.mp h1).1,h1],h2⟩
theorem Ac.two {v : D} (h : Ac (Ac P n a) (n + a.length) b v) : Ac P n (a ++ b) v := by
 rcases h with h | ⟨j,h1,h2⟩
 · exact h.app
 · exact .inr ⟨a.length + j,by rw [List.getElem?_append_right (Nat.le_add_right _ _),Nat.add_sub_cancel_left,h1],by omega⟩
theorem All.old (h : All P d) : All (Ac P n a) d := h.mono fun _ => .inl
theorem All.app (h : All (Ac P n a) d) : All (Ac P n (a ++ b)) d := h.mono fun _ => Ac.app
theorem All.two (h : All (Ac (Ac P n a) (n + a.length) b) d) : All (Ac P n (a ++ b)) d := h.mono fun _ => Ac.two
abbrev Wt (k i : Nat) (S : Sto) (n : Int) (new : List D) (S' : Sto) : Prop := At S S' i (addv k) n (n + new.length)
theorem Wt.nil (hw : S[i]? = some (wd (addv k) n)) : Wt k i S n [] S := by
 have := At.refl hw
 unfold Wt; rw [show n + (([] : List D).length : Int) = n from Int.add_zero n]; exact this
theorem Wt.two (w : Wt k i S0 n a S) (w' : Wt k i S (n + a.length) b S1) : Wt k i S0 n (a ++ b) S1 := by
 have := At.trans w w'
 have e : n + (a.length : Int) + b.length = n + ((a ++ b).length : Nat) := by rw [List.length_append]; omega
 unfold Wt; rw [← e]; exact this
structure Top (a b h : Nat) : Prop where
 l : a < h
 r : b < h
 e : h = a + 1 ∨ h = b + 1
theorem top_max (a b : Nat) : Top a b (max a b + 1) := ⟨by omega,by omega,by omega⟩
structure Res (k i : Nat) (S : Sto) (n : Int) (P : D → Prop) (ts : List D) (d : D) (h : Nat) (new : List D) (S' : Sto) : Prop where
 mm : Mk k d ts h
 wt : Wt k i S n new S'
 all : All (Ac P n new) d
theorem Res.after (w : Wt k i S0 n a S) (r : Res k i S (n + a.length) (Ac P n a) ts d h new S1) : Res k i S0 n P ts d h (a ++ new) S1 := ⟨r.mm,w.two r.wt,r.all.two⟩
theorem node_r (hw : S[i]? = some (wd (addv k) n)) (ml : Mk k l lt lh) (mr : Mk k r rt rh) (ht : Thing k t) (h1 : lh ≤ rh + 1) (h2 : rh ≤ lh + 1) (hn : lt.length + 1 + rt.length ≤ 2000) (al : All P l) (ar : All P r) :
   ∃ d S' h,g_Wood_node [.obj i,l,t,r] S = some (d,S') ∧ Res k i S n P (lt ++ t :: rt) d h [d] S' ∧ Top lh rh h :=
 ⟨_,_,_,node_ok hw ml mr ht h1 h2 hn,⟨node_mk ml mr ht h1 h2,At.set hw (by omega),.node (.inr ⟨0,rfl,(Int.add_zero n).symm⟩) al.old ar.old⟩,top_max _ _⟩
theorem Tnd.ac {d' : D} {n1 : Int} (t : Tnd n d d' n1) (a : All P d) : ∃ new : List D,n1 = n + new.length ∧ All (Ac P n new) d' ∧ new.length ≤ 1 := by
 cases t with
 | non => exact ⟨[],(Int.add_zero n).symm,.non,by simp⟩
 | node => exact ⟨[_],rfl,.node (.inr ⟨0,rfl,(Int.add_zero n).symm⟩) a.inv.1.old a.inv.2.old,by simp⟩
structure Pts (k i : Nat) (S : Sto) (n : Int) (P : D → Prop) (ts : List D) (h : Nat) (x t y : D) (xt yt : List D) (xh yh : Nat) (new : List D) (S' : Sto) : Prop where
 wt : Wt k i S n new S'
 mx : Mk k x xt xh
 my : Mk k y yt yh
 ht : Thing k t
 hts : ts = xt ++ t :: yt
 hh : Top xh yh h
 h1 : xh ≤ yh + 1
 h2 : yh ≤ xh + 1
 ax : All (Ac P n new) x
 ay : All (Ac P n new) y
 few : new.length ≤ 2
theorem parts_r (m : Mk k d ts h) (hh : 0 < h) (hw : S[i]? = some (wd (addv k) n)) (al : All P d) :
   ∃ x t y xt yt xh yh new S',g_parts [.obj i,d] S = some (.tup [x,t,y],S') ∧ Pts k i S n P ts h x t y xt yt xh yh new S' := by
 have m0 := m
 cases m with
 | non => omega
 | @node num a l t r lt rt lh rh ml mr ht h1 h2 =>
   obtain ⟨x,y,n',S',xt,yt,xh,yh,c,w,mx,my,e1,e2,q1,q2,q3,q⟩ := parts_ok m0 hw
   rcases q with ⟨_,rfl,rfl,rfl,rfl⟩ | ⟨_,n1,t1,t2⟩
   · exact ⟨x,t,y,xt,yt,xh,yh,[],_,c,⟨Wt.nil hw,mx,my,q3,e1,e2 ▸ top_max _ _,q1,q2,al.inv.1.old,al.inv.2.old,by simp⟩⟩
   · obtain ⟨a1,rfl,b1,c1⟩ := t1.ac al.inv.2
     obtain ⟨a2,rfl,b2,c2⟩ := t2.ac (al.inv.1.old (n := n) (a := a1))
     refine ⟨x,t,y,xt,yt,xh,yh,a1 ++ a2,S',c,⟨?_,mx,my,q3,e1,e2 ▸ top_max _ _,q1,q2,b1.app,b2.two,by rw [List.length_append]; omega⟩⟩
     have e : n + (a1.length : Int) + a2.length = n + ((a1 ++ a2).length : Nat) := by rw [List.length_append]; omega
     unfold Wt; rw [← e]; exact w
theorem ge_e (x y : Nat) : opGe (.int x) (.int y) = some (.bl (decide (y ≤ x))) := congrArg (fun b => some (D.bl b)) (decide_eq_decide.mpr Int.ofNat_le)
theorem gt_e (x y : Nat) : opGt (.int x) (.int y) = some (.bl (decide (y < x))) := congrArg (fun b => some (D.bl b)) (decide_eq_decide.mpr Int.ofNat_lt)
theorem len3 (a b c : List D) : (a ++ t :: b).length + 1 + c.length = a.length + 1 + (b ++ x :: c).length := by simp only [List.length_append,List.length_cons]; omega
theorem app3 (a b c : List D) : a ++ t :: (b ++ x :: c) = a ++ t :: b ++ x :: c := by simp
theorem len_l {a b : List D} {m : Nat} (h : (a ++ t :: b).length + 1 + m ≤ 2000) : b.length + 1 + m ≤ 2000 := by simp only [List.length_append,List.length_cons] at h; omega
theorem len_r {a b : List D} {m : Nat} (h : m + 1 + (a ++ t :: b).length ≤ 2000) : m + 1 + a.length ≤ 2000 := by simp only [List.length_append,List.length_cons] at h; omega
theorem few2 {a : List D} (h : a.length ≤ 2) : (a ++ [x] ++ [y]).length ≤ 7 := by simp only [List.length_append,List.length_cons,List.length_nil]; omega
theorem few5 {a b : List D} (h : a.length ≤ 2) (h' : b.length ≤ 2) : (a ++ b ++ [x] ++ [y] ++ [t]).length ≤ 7 := by simp only [List.length_append,List.length_cons,List.length_nil]; omega
theorem len_a {a b c : List D} {m : Nat} (h : (a ++ t :: (b ++ x :: c)).length + 1 + m ≤ 2000) : a.length + 1 + b.length ≤ 2000 := by simp only [List.length_append,List.length_cons] at h; omega
theorem len_b {a b c : List D} {m : Nat} (h : (a ++ t :: (b ++ x :: c)).length + 1 + m ≤ 2000) : c.length + 1 + m ≤ 2000 := by simp only [List.length_append,List.length_cons] at h; omega
theorem len_c {a b c e : List D} (h : (a ++ t :: (b ++ x :: c)).length + 1 + e.length ≤ 2000) : (a ++ t :: b).length + 1 + (c ++ y :: e).length ≤ 2000 := by simp only [List.length_append,List.length_cons] at h ⊢; omega
theorem len_d {a b c : List D} {m : Nat} (h : m + 1 + (a ++ t :: b ++ x :: c).length ≤ 2000) : m + 1 + a.length ≤ 2000 := by simp only [List.length_append,List.length_cons] at h; omega
theorem len_e {a b c : List D} {m : Nat} (h : m + 1 + (a ++ t :: b ++ x :: c).length ≤ 2000) : b.length + 1 + c.length ≤ 2000 := by simp only [List.length_append,List.length_cons] at h; omega
theorem len_f {a b c e : List D} (h : e.length + 1 + (a ++ t :: b ++ x :: c).length ≤ 2000) : (e ++ y :: a).length + 1 + (b ++ x :: c).length ≤ 2000 := by simp only [List.length_append,List.length_cons] at h ⊢; omega
theorem app5 (a b c e : List D) : a ++ t :: b ++ x :: (c ++ y :: e) = a ++ t :: (b ++ x :: c) ++ y :: e := by simp
theorem app6 (a b c e : List D) : a ++ t :: b ++ x :: (c ++ y :: e) = a ++ t :: (b ++ x :: c ++ y :: e) := by simp
theorem up1 {xh yh rh lh : Nat} (hh : lh = rh + 2) (p : Top xh yh lh) (q1 : xh ≤ yh + 1) (q2 : yh ≤ xh + 1) (hg : yh ≤ xh) : yh ≤ rh + 1 ∧ rh ≤ yh + 1 ∧ ∀ g,Top yh rh g → (xh ≤ g + 1 ∧ g ≤ xh + 1 ∧ ∀ z,Top xh g z → lh ≤ z ∧ z ≤ lh + 1) := by
 obtain ⟨p1,p2,p3⟩ := p
 refine ⟨by omega,by omega,fun g ⟨g1,g2,g3⟩ => ⟨by omega,by omega,fun z ⟨z1,z2,z3⟩ => ⟨by omega,by omega⟩⟩⟩
theorem up2 {xh yh rh lh xh' yh' : Nat} (hh : lh = rh + 2) (p : Top xh yh lh) (q1 : xh ≤ yh + 1) (q2 : yh ≤ xh + 1) (hg : ¬ yh ≤ xh) (p' : Top xh' yh' yh) (q3 : xh' ≤ yh' + 1) (q4 : yh' ≤ xh' + 1) :
   (xh ≤ xh' + 1 ∧ xh' ≤ xh + 1) ∧ (yh' ≤ rh + 1 ∧ rh ≤ yh' + 1) ∧ ∀ g g',Top xh xh' g → Top yh' rh g' → (g ≤ g' + 1 ∧ g' ≤ g + 1 ∧ ∀ z,Top g g' z → lh ≤ z ∧ z ≤ lh + 1) := by
 obtain ⟨p1,p2,p3⟩ := p
 obtain ⟨p4,p5,p6⟩ := p'
 have e1 : xh = rh := by omega
 have e2 : yh = rh + 1 := by omega
 subst e1 e2
 refine ⟨⟨by omega,by omega⟩,⟨by omega,by omega⟩,fun g g' ⟨g1,g2,g3⟩ ⟨g4,g5,g6⟩ => ?_⟩
 have e3 : g = xh + 1 := by omega
 have e4 : g' = xh + 1 := by omega
 subst e3 e4
 exact ⟨by omega,by omega,fun z ⟨z1,z2,z3⟩ => ⟨by omega,by omega⟩⟩
theorem Top.sym {a b h : Nat} (p : Top a b h) : Top b a h := ⟨p.r,p.l,p.e.symm⟩
theorem lifted_left_ok (hw : S[i]? = some (wd (addv k) n)) (ml : Mk k l lt lh) (mr : Mk k r rt rh) (ht : Thing k t) (hh : lh = rh + 2) (hn : lt.length + 1 + rt.length ≤ 2000) (al : All P l) (ar : All P r) :
   ∃ d h new S',g_lifted_left [.obj i,l,t,r] S = some (d,S') ∧ Res k i S n P (lt ++ t :: rt) d h new S' ∧ (lh ≤ h ∧ h ≤ lh + 1) ∧ new.length ≤ 7 := by
 obtain ⟨x,u,y,xt,yt,xh,yh,w1,S1,c1,p⟩ := parts_r ml (by omega) hw al
 have e1 := p.hts
 subst e1
 have e2 := p.hh
 have f1 := p.few
 by_cases hg : yh ≤ xh
 · obtain ⟨k1,k2,k3⟩ := up1 hh p.hh p.h1 p.h2 hg
   have hge : opGe (.int xh) (.int yh) = some (.bl true) := by rw [ge_e,decide_eq_true hg]
   clear hg
   obtain ⟨d1,S2,g1,c2,r2,t2⟩ := node_r p.wt.at_ p.my mr ht k1 k2 (len_l hn) p.ay ar.old
   have r2 := r2.after p.wt
   obtain ⟨k4,k5,k6⟩ := k3 _ t2
   obtain ⟨d2,S3,g2,c3,r3,t3⟩ := node_r r2.wt.at_ p.mx r2.mm p.ht k4 k5 (by rw [← len3]; exact hn) p.ax.app r2.all
   have r3 := r3.after r2.wt
   exact ⟨d2,_,_,S3,b_rt rfl (st_seq (st_set (e_call (a_c (e_v rfl) (a_c (e_v rfl) a_n)) c1)) (st_seqR (st_then (b_of (e_2 (e_call (a_c (e_2s (e_v rfl) e_k rfl) a_n) (height_ok p.mx S1)) (e_call (a_c (e_2s (e_v rfl) e_k rfl) a_n) (height_ok p.my S1)) hge)) (st_ret (e_meth (e_v rfl) (insAt_wd p.wt.at_) (wl_node _ _) (a_c (e_2s (e_v rfl) e_k rfl) (a_c (e_2s (e_v rfl) e_k rfl) (a_c (e_meth (e_v rfl) (insAt_wd p.wt.at_) (wl_node _ _) (a_c (e_2s (e_v rfl) e_k rfl) (a_c (e_v rfl) (a_c (e_v rfl) a_n))) c2) a_n))) c3))))),app3 xt yt rt ▸ r3,k6 _ t3,few2 f1⟩
 · have hge : opGe (.int xh) (.int yh) = some (.bl false) := by rw [ge_e,decide_eq_false hg]
   obtain ⟨x',v,y',xt',yt',xh',yh',w2,S2,c2,p2⟩ := parts_r p.my (by omega) p.wt.at_ p.ay
   have e3 := p2.hts
   subst e3
   obtain ⟨⟨k1,k2⟩,⟨k3,k4⟩,k5⟩ := up2 hh p.hh p.h1 p.h2 hg p2.hh p2.h1 p2.h2
   have f2 := p2.few
   clear hg e2
   have wt2 := p.wt.two p2.wt
   obtain ⟨d1,S3,g1,c3,r3,t3⟩ := node_r wt2.at_ p.mx p2.mx p.ht k1 k2 (len_a hn) p.ax.app p2.ax.two
   have r3 := r3.after wt2
   obtain ⟨d2,S4,g2,c4,r4,t4⟩ := node_r r3.wt.at_ p2.my mr ht k3 k4 (len_b hn) p2.ay.two.app ar.old
   have r4 := r4.after r3.wt
   obtain ⟨k6,k7,k8⟩ := k5 _ _ t3 t4
   obtain ⟨d3,S5,g3,c5,r5,t5⟩ := node_r r4.wt.at_ r3.mm r4.mm p2.ht k6 k7 (len_c hn) r3.all.app r4.all
   have r5 := r5.after r4.wt
   exact ⟨d3,_,_,S5,b_rt rfl (st_seq (st_set (e_call (a_c (e_v rfl) (a_c (e_v rfl) a_n)) c1)) (st_seq (st_pass (b_of (e_2 (e_call (a_c (e_2s (e_v rfl) e_k rfl) a_n) (height_ok p.mx S1)) (e_call (a_c (e_2s (e_v rfl) e_k rfl) a_n) (height_ok p.my S1)) hge))) (st_seq (st_set (e_call (a_c (e_v rfl) (a_c (e_2s (e_v rfl) e_k rfl) a_n)) c2)) (st_seq (st_set (e_meth (e_v rfl) (insAt_wd wt2.at_) (wl_node _ _) (a_c (e_2s (e_v rfl) e_k rfl) (a_c (e_2s (e_v rfl) e_k rfl) (a_c (e_2s (e_v rfl) e_k rfl) a_n))) c3)) (st_seq (st_set (e_meth (e_v rfl) (insAt_wd r3.wt.at_) (wl_node _ _) (a_c (e_2s (e_v rfl) e_k rfl) (a_c (e_v rfl) (a_c (e_v rfl) a_n))) c4)) (st_ret (e_meth (e_v rfl) (insAt_wd r4.wt.at_) (wl_node _ _) (a_c (e_v rfl) (a_c (e_2s (e_v rfl) e_k rfl) (a_c (e_v rfl) a_n))) c5))))))),app5 xt xt' yt' rt ▸ r5,k8 _ t5,few5 f1 f2⟩
theorem lifted_right_ok (hw : S[i]? = some (wd (addv k) n)) (ml : Mk k l lt lh) (mr : Mk k r rt rh) (ht : Thing k t) (hh : rh = lh + 2) (hn : lt.length + 1 + rt.length ≤ 2000) (al : All P l) (ar : All P r) :
   ∃ d h new S',g_lifted_right [.obj i,l,t,r] S = some (d,S') ∧ Res k i S n P (lt ++ t :: rt) d h new S' ∧ (rh ≤ h ∧ h ≤ rh + 1) ∧ new.length ≤ 7 := by
 obtain ⟨x,u,y,xt,yt,xh,yh,w1,S1,c1,p⟩ := parts_r mr (by omega) hw ar
 have e1 := p.hts
 subst e1
 have e2 := p.hh
 have f1 := p.few
 by_cases hg : xh ≤ yh
 · obtain ⟨k1,k2,k3⟩ := up1 hh p.hh.sym p.h2 p.h1 hg
   have hge : opGe (.int yh) (.int xh) = some (.bl true) := by rw [ge_e,decide_eq_true hg]
   clear hg
   obtain ⟨d1,S2,g1,c2,r2,t2⟩ := node_r p.wt.at_ ml p.mx ht k2 k1 (len_r hn) al.old p.ax
   have r2 := r2.after p.wt
   obtain ⟨k4,k5,k6⟩ := k3 _ t2.sym
   obtain ⟨d2,S3,g2,c3,r3,t3⟩ := node_r r2.wt.at_ r2.mm p.my p.ht k5 k4 (by rw [len3]; exact hn) r2.all p.ay.app
   have r3 := r3.after r2.wt
   exact ⟨d2,_,_,S3,b_rt rfl (st_seq (st_set (e_call (a_c (e_v rfl) (a_c (e_v rfl) a_n)) c1)) (st_seqR (st_then (b_of (e_2 (e_call (a_c (e_2s (e_v rfl) e_k rfl) a_n) (height_ok p.my S1)) (e_call (a_c (e_2s (e_v rfl) e_k rfl) a_n) (height_ok p.mx S1)) hge)) (st_ret (e_meth (e_v rfl) (insAt_wd p.wt.at_) (wl_node _ _) (a_c (e_meth (e_v rfl) (insAt_wd p.wt.at_) (wl_node _ _) (a_c (e_v rfl) (a_c (e_v rfl) (a_c (e_2s (e_v rfl) e_k rfl) a_n))) c2) (a_c (e_2s (e_v rfl) e_k rfl) (a_c (e_2s (e_v rfl) e_k rfl) a_n))) c3))))),(app3 lt xt yt).symm ▸ r3,k6 _ t3.sym,few2 f1⟩
 · have hge : opGe (.int yh) (.int xh) = some (.bl false) := by rw [ge_e,decide_eq_false hg]
   obtain ⟨x',v,y',xt',yt',xh',yh',w2,S2,c2,p2⟩ := parts_r p.mx (by omega) p.wt.at_ p.ax
   have e3 := p2.hts
   subst e3
   obtain ⟨⟨k1,k2⟩,⟨k3,k4⟩,k5⟩ := up2 hh p.hh.sym p.h2 p.h1 hg p2.hh.sym p2.h2 p2.h1
   have f2 := p2.few
   clear hg e2
   have wt2 := p.wt.two p2.wt
   obtain ⟨d1,S3,g1,c3,r3,t3⟩ := node_r wt2.at_ ml p2.mx ht k4 k3 (len_d hn) al.old p2.ax.two
   have r3 := r3.after wt2
   obtain ⟨d2,S4,g2,c4,r4,t4⟩ := node_r r3.wt.at_ p2.my p.my p.ht k2 k1 (len_e hn) p2.ay.two.app p.ay.app.app
   have r4 := r4.after r3.wt
   obtain ⟨k6,k7,k8⟩ := k5 _ _ t4.sym t3.sym
   obtain ⟨d3,S5,g3,c5,r5,t5⟩ := node_r r4.wt.at_ r3.mm r4.mm p2.ht k7 k6 (len_f hn) r3.all.app r4.all
   have r5 := r5.after r4.wt
   exact ⟨d3,_,_,S5,b_rt rfl (st_seq (st_set (e_call (a_c (e_v rfl) (a_c (e_v rfl) a_n)) c1)) (st_seq (st_pass (b_of (e_2 (e_call (a_c (e_2s (e_v rfl) e_k rfl) a_n) (height_ok p.my S1)) (e_call (a_c (e_2s (e_v rfl) e_k rfl) a_n) (height_ok p.mx S1)) hge))) (st_seq (st_set (e_call (a_c (e_v rfl) (a_c (e_2s (e_v rfl) e_k rfl) a_n)) c2)) (st_seq (st_set (e_meth (e_v rfl) (insAt_wd wt2.at_) (wl_node _ _) (a_c (e_v rfl) (a_c (e_v rfl) (a_c (e_2s (e_v rfl) e_k rfl) a_n))) c3)) (st_seq (st_set (e_meth (e_v rfl) (insAt_wd r3.wt.at_) (wl_node _ _) (a_c (e_2s (e_v rfl) e_k rfl) (a_c (e_2s (e_v rfl) e_k rfl) (a_c (e_2s (e_v rfl) e_k rfl) a_n))) c4)) (st_ret (e_meth (e_v rfl) (insAt_wd r4.wt.at_) (wl_node _ _) (a_c (e_v rfl) (a_c (e_2s (e_v rfl) e_k rfl) (a_c (e_v rfl) a_n))) c5))))))),app6 lt xt' yt' yt ▸ r5,k8 _ t5.sym,few5 f1 f2⟩
structure Hi (a b h : Nat) : Prop where
 l : a ≤ h
 r : b ≤ h
 m : ∀ z,a ≤ z → b ≤ z → h ≤ z + 1
theorem Top.hi {a b h : Nat} (p : Top a b h) : Hi a b h := ⟨Nat.le_of_lt p.l,Nat.le_of_lt p.r,fun z h1 h2 => by rcases p.e with rfl | rfl <;> omega⟩
theorem balanced_ok (hw : S[i]? = some (wd (addv k) n)) (ml : Mk k l lt lh) (mr : Mk k r rt rh) (ht : Thing k t) (h1 : lh ≤ rh + 2) (h2 : rh ≤ lh + 2) (hn : lt.length + 1 + rt.length ≤ 2000) (al : All P l) (ar : All P r) :
   ∃ d h new S',g_balanced [.obj i,l,t,r] S = some (d,S') ∧ Res k i S n P (lt ++ t :: rt) d h new S' ∧ Hi lh rh h ∧ (lh ≤ rh + 1 → rh ≤ lh + 1 → Top lh rh h) ∧ new.length ≤ 7 := by
 have bl := in_balance_ok ml mr S
 by_cases hb : lh ≤ rh + 1 ∧ rh ≤ lh + 1
 · rw [decide_eq_true hb] at bl
   obtain ⟨d1,S1,g1,c1,r1,t1⟩ := node_r hw ml mr ht hb.1 hb.2 hn al ar
   exact ⟨d1,_,_,S1,b_rt rfl (st_seqR (st_then (b_of (e_call (a_c (e_v rfl) (a_c (e_v rfl) a_n)) bl)) (st_ret (e_meth (e_v rfl) (insAt_wd hw) (wl_node _ _) (a_c (e_v rfl) (a_c (e_v rfl) (a_c (e_v rfl) a_n))) c1)))),r1,t1.hi,fun _ _ => t1,Nat.le_of_ble_eq_true rfl⟩
 · rw [decide_eq_false hb] at bl
   by_cases hg : rh < lh
   · have e : lh = rh + 2 := by omega
     obtain ⟨d1,h,w,S1,c1,r1,⟨q1,q2⟩,q3⟩ := lifted_left_ok hw ml mr ht e hn al ar
     exact ⟨d1,h,w,S1,b_rt rfl (st_seq (st_pass (b_of (e_call (a_c (e_v rfl) (a_c (e_v rfl) a_n)) bl))) (st_seqR (st_then (b_of (e_2 (e_call (a_c (e_v rfl) a_n) (height_ok ml S)) (e_call (a_c (e_v rfl) a_n) (height_ok mr S)) (by rw [gt_e,decide_eq_true hg]))) (st_ret (e_call (a_c (e_v rfl) (a_c (e_v rfl) (a_c (e_v rfl) (a_c (e_v rfl) a_n)))) c1))))),r1,⟨q1,Nat.le_trans (Nat.le_of_lt hg) q1,fun z z1 z2 => Nat.le_trans q2 (Nat.succ_le_succ z1)⟩,fun u v => absurd ⟨u,v⟩ hb,q3⟩
   · have e : rh = lh + 2 := by omega
     obtain ⟨d1,h,w,S1,c1,r1,⟨q1,q2⟩,q3⟩ := lifted_right_ok hw ml mr ht e hn al ar
     exact ⟨d1,h,w,S1,b_rt rfl (st_seq (st_pass (b_of (e_call (a_c (e_v rfl) (a_c (e_v rfl) a_n)) bl))) (st_seq (st_pass (b_of (e_2 (e_call (a_c (e_v rfl) a_n) (height_ok ml S)) (e_call (a_c (e_v rfl) a_n) (height_ok mr S)) (by rw [gt_e,decide_eq_false hg])))) (st_ret (e_call (a_c (e_v rfl) (a_c (e_v rfl) (a_c (e_v rfl) (a_c (e_v rfl) a_n)))) c1)))),r1,⟨Nat.le_trans (Nat.not_lt.mp hg) q1,q1,fun z z1 z2 => Nat.le_trans q2 (Nat.succ_le_succ z2)⟩,fun u v => absurd ⟨u,v⟩ hb,q3⟩
theorem Hi.sym {a b h : Nat} (p : Hi a b h) : Hi b a h := ⟨p.r,p.l,fun z u v => p.m z v u⟩
end Pg
set_option maxHeartbeats 4000000
namespace Pg
open PySem L2 F Mt
variable {k : Nat} [Kd k] {d l r t x y : D} {ts lt rt : List D} {h lh rh i : Nat} {n : Int} {S S0 S1 : Sto} {ev e : Ev} {P Q : D → Prop} {a b new : List D}
theorem lt_e (x y : Nat) : opLt (.int x) (.int y) = some (.bl (decide (x < y))) := congrArg (fun b => some (D.bl b)) (decide_eq_decide.mpr Int.ofNat_lt)
theorem le_e (x y : Nat) : opLe (.int x) (.int y) = some (.bl (decide (x ≤ y))) := congrArg (fun b => some (D.bl b)) (decide_eq_decide.mpr Int.ofNat_le)
theorem lt_T {x y : Nat} (h : x < y) : opLt (.int x) (.int y) = some (.bl true) := by rw [lt_e,decide_eq_true h]
theorem lt_F {x y : Nat} (h : ¬ x < y) : opLt (.int x) (.int y) = some (.bl false) := by rw [lt_e,decide_eq_false h]
theorem le_T {x y : Nat} (h : x ≤ y) : opLe (.int x) (.int y) = some (.bl true) := by rw [le_e,decide_eq_true h]
theorem le_F {x y : Nat} (h : ¬ x ≤ y) : opLe (.int x) (.int y) = some (.bl false) := by rw [le_e,decide_eq_false h]
theorem gt_T {x y : Nat} (h : y < x) : opGt (.int x) (.int y) = some (.bl true) := by rw [gt_e,decide_eq_true h]
theorem gt_F {x y : Nat} (h : ¬ y < x) : opGt (.int x) (.int y) = some (.bl false) := by rw [gt_e,decide_eq_false h]
theorem eq_T {x y : Nat} (h : x = y) : opEq (.int x) (.int y) = some (.bl true) := by rw [eq_int,h]; simp
theorem eq_F {x y : Nat} (h : x ≠ y) : opEq (.int x) (.int y) = some (.bl false) := by
 rw [eq_int]; simp; omega
theorem e_sub2 {f g : E} {p m q : Nat} (hf : f ev S = some (.int p,S)) (hg : g ev S = some (.int m,S)) (hq : p = m + 1 + q) : e2 opSub (e2 opSub f g) (eK (.int 1)) ev S = some (.int q,S) :=
 e_2 (e_2 hf hg (sub_int _ _)) e_k (by rw [sub_int,show (p : Int) - m - 1 = q by omega])
def HB (m h : Nat) : Prop := m < 2 ^ h ∧ 2 ^ h ≤ 2 * m + 1
theorem hb_step {m a b : Nat} (hm : 0 < m) (ha : HB (m / 2) a) (hb : HB ((m - 1) / 2) b) : a ≤ b + 1 ∧ b ≤ a + 1 ∧ ∀ h,Top a b h → HB m h := by
 obtain ⟨a1,a2⟩ := ha
 obtain ⟨b1,b2⟩ := hb
 have h1 : b ≤ a := by
   rcases Nat.lt_or_ge a b with q | q
   · have := Nat.pow_le_pow_right (n := 2) (by decide) (show a + 1 ≤ b from q)
     rw [Nat.pow_succ] at this
     omega
   · exact q
 have h2 : a ≤ b + 1 := by
   rcases Nat.lt_or_ge (b + 1) a with q | q
   · have := Nat.pow_le_pow_right (n := 2) (by decide) (show b + 1 + 1 ≤ a from q)
     rw [Nat.pow_succ,Nat.pow_succ] at this
     omega
   · exact q
 refine ⟨h2,by omega,fun h ⟨_,_,e⟩ => ?_⟩
 have e : h = a + 1 := by omega
 subst e
 unfold HB
 rw [Nat.pow_succ]
 cases a with
 | zero => rw [Nat.pow_zero] at a1 a2 ⊢; omega
 | succ a => rw [Nat.pow_succ] at a1 a2 ⊢; omega
theorem at_mid (p a c : List D) : atI (p ++ a ++ t :: c) (((p.length + a.length : Nat)) : Int) = some t := atI_nat (by rw [List.getElem?_append_right (by simp),List.length_append]; simp)
theorem halves : ∀ {ts : List D},ts ≠ [] → ∃ a t b,ts = a ++ t :: b ∧ a.length = ts.length / 2 ∧ b.length = (ts.length - 1) / 2 := fun {ts} h => by
 have hl : 0 < ts.length := List.length_pos_iff.mpr h
 have hm : ts.length / 2 < ts.length := by omega
 refine ⟨ts.take (ts.length / 2),ts[ts.length / 2],ts.drop (ts.length / 2 + 1),?_,?_,?_⟩
 · rw [← List.drop_eq_getElem_cons hm,List.take_append_drop]
 · rw [List.length_take]; omega
 · rw [List.length_drop]; omega
theorem built_ok : ∀ (f : Nat) {p ts q : List D} {n : Int} {S : Sto} {P : D → Prop},S[i]? = some (wd (addv k) n) → (∀ x ∈ ts,Thing k x) → ts.length ≤ 2000 → ts.length < 2 ^ f → ∀ {s e : Nat},s = p.length → e = p.length + ts.length →
   ∃ d h new S',g_built (f + 1) [.obj i,.lst (p ++ ts ++ q),.int s,.int e] S = some (d,S') ∧ Res k i S n P ts d h new S' ∧ HB ts.length h
 | f,p,ts,q,n,S,P,hw,ht,hl,hf,s,e,hs,he => by
   by_cases h0 : ts = []
   · subst h0
     refine ⟨.non,0,[],S,b_rt rfl (st_seqR (st_then (b_of (e_2 (e_v rfl) (e_v rfl) (eq_T (by simp [hs,he])))) (st_ret e_k))),⟨.non,Wt.nil hw,.non⟩,by decide,by decide⟩
   · obtain ⟨a,t,b,e0,la,lb⟩ := halves h0
     have hlen : 0 < ts.length := List.length_pos_iff.mpr h0
     cases f with
     | zero => rw [Nat.pow_zero] at hf; omega
     | succ f =>
       rw [Nat.pow_succ] at hf
       obtain ⟨d1,h1,w1,S1,c1,r1,b1⟩ := built_ok f (p := p) (ts := a) (q := t :: b ++ q) (P := P) hw (fun x hx => ht x (by rw [e0]; exact List.mem_append_left _ hx)) (by omega) (by omega) hs rfl
       obtain ⟨d2,h2,w2,S2,c2,r2,b2⟩ := built_ok f (p := p ++ a ++ [t]) (ts := b) (q := q) (P := Ac P n w1) r1.wt.at_ (fun x hx => ht x (by rw [e0]; exact List.mem_append_right _ (List.mem_cons_of_mem _ hx))) (by omega) (by omega) (s := p.length + a.length + 1) (e := e) (by simp; omega) (by simp; omega)
       have r2 := r2.after r1.wt
       rw [la] at b1
       rw [lb] at b2
       obtain ⟨q1,q2,q3⟩ := hb_step hlen b1 b2
       have e1 : p ++ a ++ (t :: b ++ q) = p ++ ts ++ q := by rw [e0]; simp
       have e2 : p ++ a ++ [t] ++ b ++ q = p ++ ts ++ q := by rw [e0]; simp
       have e3 : p ++ ts ++ q = p ++ a ++ t :: (b ++ q) := by rw [e0]; simp
       rw [e1] at c1
       rw [e2] at c2
       obtain ⟨d3,S3,h3,c3,r3,t3⟩ := node_r r2.wt.at_ r1.mm r2.mm (ht t (by rw [e0]; simp)) q1 q2 (by omega) r1.all.app r2.all
       have r3 := r3.after r2.wt
       rw [← e0] at r3
       have em : opDiv (.int ((s : Int) + e)) (.int 2) = some (.int ((p.length + a.length : Nat) : Int)) := by rw [div_e (by decide),show ((s : Int) + e) / 2 = ((p.length + a.length : Nat) : Int) by omega]
       exact ⟨d3,h3,_,S3,b_rt rfl (st_seq (st_pass (b_of (e_2 (e_v rfl) (e_v rfl) (eq_F (by omega))))) (st_seq (st_set (e_2 (e_2 (e_v rfl) (e_v rfl) (add_int _ _)) e_k em)) (st_seq (st_set (e_call (a_c (e_v rfl) (a_c (e_v rfl) (a_c (e_v rfl) (a_c (e_v rfl) a_n)))) c1)) (st_seq (st_set (e_call (a_c (e_v rfl) (a_c (e_v rfl) (a_c (e_2 (e_v rfl) e_k (add_int _ _)) (a_c (e_v rfl) a_n)))) c2)) (st_ret (e_meth (e_v rfl) (insAt_wd r2.wt.at_) (wl_node _ _) (a_c (e_v rfl) (a_c (e_2s (e_v rfl) (e_v rfl) (by rw [e3]; exact at_mid _ _ _)) (a_c (e_v rfl) a_n))) c3)))))),r3,q3 _ t3⟩
theorem make_of_ok (hw : S[i]? = some (wd (addv k) n)) (ht : ∀ x ∈ ts,Thing k x) (hl : ts.length ≤ 2000) : ∃ d h new S',g_make_of [.obj i,.lst ts] S = some (d,S') ∧ Res k i S n P ts d h new S' := by
 obtain ⟨d,h,new,S1,c,r,_⟩ := built_ok (i := i) (k := k) 39 (p := []) (ts := ts) (q := []) (P := P) hw ht hl (Nat.lt_of_le_of_lt hl (by decide)) (s := 0) (e := ts.length) rfl (by simp)
 rw [List.nil_append,List.append_nil] at c
 exact ⟨d,h,new,S1,b_rt rfl (st_seq (st_drop (e_call (a_c (e_a (a_c (e_v rfl) a_n) rfl) a_n) (room_ok hl S))) (st_ret (e_call (a_c (e_v rfl) (a_c (e_v rfl) (a_c e_k (a_c (e_a (a_c (e_v rfl) a_n) rfl) a_n)))) c))),r⟩
theorem eq_bl (a b : Bool) : opEq (.bl a) (.bl b) = some (.bl (a == b)) := rfl
structure Seen (k : Nat) (us : List D) (h : Nat) (x t y : D) (c : Bool) (xt yt : List D) (xh yh : Nat) : Prop where
 mx : Mk k x xt xh
 my : Mk k y yt yh
 ht : Thing k t
 hu : us = ord c xt ++ t :: ord c yt
 hx : xh < h
 hy : yh < h
theorem seen_ok (m : Mk k d ts h) (hh : 0 < h) (b : Bool) (S : Sto) : ∃ x t y c xt yt xh yh,g_seen [d,.bl b] S = some (.tup [x,t,y,.bl c],S) ∧ Seen k (ord b ts) h x t y c xt yt xh yh := by
 cases m with
 | non => omega
 | @node num a l t r lt rt lh rh ml mr ht h1 h2 =>
   unfold mkD
   by_cases e : a = b
   · subst e
     exact ⟨l,t,r,false,lt,rt,lh,rh,b_rt rfl (st_seqR (st_then (b_of (e_2 (e_2s (e_v rfl) e_k rfl) (e_v rfl) (by rw [eq_bl]; simp))) (st_ret (e_tup (a_c (e_2s (e_v rfl) e_k rfl) (a_c (e_2s (e_v rfl) e_k rfl) (a_c (e_2s (e_v rfl) e_k rfl) (a_c e_k a_n)))) (Nat.le_of_ble_eq_true rfl))))),ml,mr,ht,by cases a <;> simp [ord],by omega,by omega⟩
   · exact ⟨r,t,l,true,rt,lt,rh,lh,b_rt rfl (st_seq (st_pass (b_of (e_2 (e_2s (e_v rfl) e_k rfl) (e_v rfl) (by rw [eq_bl]; simp [e])))) (st_ret (e_tup (a_c (e_2s (e_v rfl) e_k rfl) (a_c (e_2s (e_v rfl) e_k rfl) (a_c (e_2s (e_v rfl) e_k rfl) (a_c e_k a_n)))) (Nat.le_of_ble_eq_true rfl)))),mr,ml,ht,by cases a <;> cases b <;> simp_all [ord],by omega,by omega⟩
theorem mk_pos (m : Mk k d ts h) (hl : ts ≠ []) : 0 < h := by
 cases m with
 | non => exact absurd rfl hl
 | node _ _ _ _ _ => omega
theorem ne_of {p : Nat} (h : ts[p]? = some x) : ts ≠ [] := fun e => by rw [e] at h; cases h
theorem ord_ne {c : Bool} (h : ord c ts ≠ []) : ts ≠ [] := fun e => h (by rw [e]; cases c <;> rfl)
theorem thing_at_ok : ∀ (f : Nat) {d : D} {ts : List D} {h p : Nat} {b : Bool},Mk k d ts h → h ≤ f → (ord b ts)[p]? = some x → ∀ S,g_thing_at f [d,.bl b,.int p] S = some (x,S)
 | 0,d,ts,h,p,b,m,hf,hp,S => absurd (mk_pos m (ord_ne (ne_of hp))) (Nat.not_lt.mpr hf)
 | f + 1,d,ts,h,p,b,m,hf,hp,S => by
   obtain ⟨u,t,y,c,xt,yt,xh,yh,c1,s⟩ := seen_ok m (mk_pos m (ord_ne (ne_of hp))) b S
   have hu := s.hu
   rw [hu] at hp
   have lx := ord_len c xt
   have hx := s.hx
   have hy := s.hy
   have c2 := size_ok s.mx S
   by_cases h1 : p < xt.length
   · rw [List.getElem?_append_left (by omega)] at hp
     exact b_rt rfl (st_seq (st_set (e_call (a_c (e_v rfl) (a_c (e_v rfl) a_n)) c1)) (st_seq (st_set (e_call (a_c (e_2s (e_v rfl) e_k rfl) a_n) c2)) (st_seqR (st_then (b_of (e_2 (e_v rfl) (e_v rfl) (lt_T h1))) (st_ret (e_call (a_c (e_2s (e_v rfl) e_k rfl) (a_c (e_2s (e_v rfl) e_k rfl) (a_c (e_v rfl) a_n))) (thing_at_ok f s.mx (by omega) hp S)))))))
   · rw [List.getElem?_append_right (by omega),lx] at hp
     by_cases h2 : xt.length < p
     · have e : p = xt.length + 1 + (p - xt.length - 1) := by omega
       rw [show p - xt.length = (p - xt.length - 1) + 1 by omega,List.getElem?_cons_succ] at hp
       exact b_rt rfl (st_seq (st_set (e_call (a_c (e_v rfl) (a_c (e_v rfl) a_n)) c1)) (st_seq (st_set (e_call (a_c (e_2s (e_v rfl) e_k rfl) a_n) c2)) (st_seq (st_pass (b_of (e_2 (e_v rfl) (e_v rfl) (lt_F h1)))) (st_seqR (st_then (b_of (e_2 (e_v rfl) (e_v rfl) (gt_T h2))) (st_ret (e_call (a_c (e_2s (e_v rfl) e_k rfl) (a_c (e_2s (e_v rfl) e_k rfl) (a_c (e_sub2 (e_v rfl) (e_v rfl) e) a_n))) (thing_at_ok f s.my (by omega) hp S))))))))
     · rw [show p - xt.length = 0 by omega,List.getElem?_cons_zero] at hp
       cases hp
       exact b_rt rfl (st_seq (st_set (e_call (a_c (e_v rfl) (a_c (e_v rfl) a_n)) c1)) (st_seq (st_set (e_call (a_c (e_2s (e_v rfl) e_k rfl) a_n) c2)) (st_seq (st_pass (b_of (e_2 (e_v rfl) (e_v rfl) (lt_F h1)))) (st_seq (st_pass (b_of (e_2 (e_v rfl) (e_v rfl) (gt_F h2)))) (st_ret (e_2s (e_v rfl) e_k rfl))))))
end Pg
set_option maxHeartbeats 4000000
namespace Pg
open PySem L2 F Mt
variable {k : Nat} [Kd k] {d l r t x y : D} {ts lt rt : List D} {h lh rh i : Nat} {n : Int} {S S0 S1 : Sto} {ev e : Ev} {P Q : D → Prop} {a b new : List D}
theorem mk_nil (m : Mk k d [] h) : d = .non ∧ h = 0 := by
 generalize e : ([] : List D) = ts at m
 cases m with
 | non => exact ⟨rfl,rfl⟩
 | node _ _ _ _ _ => exact absurd (congrArg List.length e) (by rw [ord_len]; simp)
theorem h15 (m : Mk k d ts h) (hl : ts.length ≤ 2000) : h ≤ 15 := by
 have q := mk_low m
 rcases Nat.lt_or_ge 15 h with z | z
 · have : low 16 ≤ low h := low_mono z
   have e : low 16 = 2583 := by decide
   omega
 · exact z
theorem few_o {a b c : List D} {m xh yh h : Nat} (p : Top xh yh h) (h1 : a.length ≤ 2) (h2 : b.length ≤ 9 * xh + m) (h3 : c.length ≤ 7) : (a ++ b ++ c).length ≤ 9 * h + m := by
 have := p.l
 simp only [List.length_append]; omega
theorem few_o' {a b c : List D} {m xh yh h : Nat} (p : Top xh yh h) (h1 : a.length ≤ 2) (h2 : b.length ≤ 9 * yh + m) (h3 : c.length ≤ 7) : (a ++ b ++ c).length ≤ 9 * h + m := few_o p.sym h1 h2 h3
theorem tup_or (m : Mk k d ts h) : (d = .non ∧ ts = [] ∧ h = 0) ∨ ((∃ xs,d = .tup xs) ∧ ∃ u rest,ts = u :: rest) := by
 cases m with
 | non => exact .inl ⟨rfl,rfl,rfl⟩
 | @node num a l t r lt rt lh rh _ _ _ _ _ =>
   refine .inr ⟨⟨_,rfl⟩,?_⟩
   cases e : ord a (lt ++ t :: rt) with
   | nil => exact absurd (congrArg List.length e) (by rw [ord_len]; simp)
   | cons u rest => exact ⟨u,rest,rfl⟩
theorem is_non (xs : List D) : opIs (.tup xs) .non = some (.bl false) := rfl
end Pg
set_option maxHeartbeats 4000000
namespace Pg
open PySem L2 F Mt
variable {k : Nat} [Kd k] {d l r t x y : D} {ts lt rt : List D} {h lh rh i : Nat} {n : Int} {S S0 S1 : Sto} {ev e : Ev} {P Q : D → Prop} {a b new : List D}
theorem take_l {p : Nat} (h : p ≤ a.length) : (a ++ t :: b).take p = a.take p := List.take_append_of_le_length h
theorem drop_l {p : Nat} (h : p ≤ a.length) : (a ++ t :: b).drop p = a.drop p ++ t :: b := List.drop_append_of_le_length h
theorem take_r {q : Nat} : (a ++ t :: b).take (a.length + 1 + q) = a ++ t :: b.take q := by rw [List.take_append,List.take_of_length_le (by omega),show a.length + 1 + q - a.length = q + 1 by omega,List.take_succ_cons]
theorem drop_r {q : Nat} : (a ++ t :: b).drop (a.length + 1 + q) = b.drop q := by rw [List.drop_append,List.drop_of_length_le (by omega),show a.length + 1 + q - a.length = q + 1 by omega,List.drop_succ_cons,List.nil_append]
def turn (s e : Nat) (ts : List D) : List D := ts.take s ++ ((ts.take e).drop s).reverse ++ ts.drop e
end Pg
set_option maxHeartbeats 4000000
namespace Pg
open PySem L2 F Mt
variable {k : Nat} [Kd k] {d l r t x y : D} {ts lt rt : List D} {h lh rh i : Nat} {n : Int} {S S0 S1 : Sto} {ev e : Ev} {P Q : D → Prop} {a b new : List D}
theorem p1 {xh yh h g : Nat} (p : Top xh yh h) (q1 : xh ≤ yh + 1) (q2 : yh ≤ xh + 1) (g1 : xh ≤ g) (g2 : g ≤ xh + 1) : (g ≤ yh + 2 ∧ yh ≤ g + 2) ∧ ∀ z,Hi g yh z → (g ≤ yh + 1 → yh ≤ g + 1 → Top g yh z) → h ≤ z ∧ z ≤ h + 1 := by
 obtain ⟨p1,p2,p3⟩ := p
 refine ⟨⟨by omega,by omega⟩,fun z hz ht => ?_⟩
 by_cases hb : g ≤ yh + 1 ∧ yh ≤ g + 1
 · obtain ⟨t1,t2,t3⟩ := ht hb.1 hb.2
   omega
 · have := hz.l
   have := hz.m g (Nat.le_refl _) (by omega)
   omega
theorem put_l {p : Nat} (h : p ≤ a.length) : (a ++ t :: b).take p ++ x :: (a ++ t :: b).drop p = (a.take p ++ x :: a.drop p) ++ t :: b := by rw [take_l h,drop_l h]; simp
theorem put_r {q : Nat} : (a ++ t :: b).take (a.length + 1 + q) ++ x :: (a ++ t :: b).drop (a.length + 1 + q) = a ++ t :: (b.take q ++ x :: b.drop q) := by rw [take_r,drop_r]; simp
theorem put_len (p : Nat) : (ts.take p ++ x :: ts.drop p).length = ts.length + 1 := by simp only [List.length_append,List.length_cons,List.length_take,List.length_drop]; omega
theorem put_in_ok : ∀ (f : Nat) {d : D} {ts : List D} {h p : Nat} {n : Int} {S : Sto} {P : D → Prop},S[i]? = some (wd (addv k) n) → Mk k d ts h → ts.length < 2000 → p ≤ ts.length → Thing k x → All P d → h < f →
   ∃ d' h' new S',g_put_in f [.obj i,d,.int p,x] S = some (d',S') ∧ Res k i S n P (ts.take p ++ x :: ts.drop p) d' h' new S' ∧ (h ≤ h' ∧ h' ≤ h + 1) ∧ new.length ≤ 9 * h + 1
 | 0,_,_,_,_,_,_,_,_,_,_,_,_,_,hf => absurd hf (Nat.not_lt_zero _)
 | f + 1,d,ts,h,p,n,S,P,hw,m,hl,hp,ht,al,hf => by
   rcases tup_or m with ⟨rfl,rfl,rfl⟩ | ⟨⟨xs,ed⟩,u0,r0,e0⟩
   · obtain ⟨d1,S1,g1,c1,r1,t1⟩ := node_r hw (.non (k := k)) (.non (k := k)) ht (Nat.le_succ 0) (Nat.le_succ 0) (by decide) (All.non (P := P)) .non
     have e : g1 = 1 := by have := t1.e; omega
     subst e
     exact ⟨d1,1,_,S1,b_rt rfl (st_seqR (st_then (b_of (e_2 (e_v rfl) e_k rfl)) (st_ret (e_meth (e_v rfl) (insAt_wd hw) (wl_node _ _) (a_c e_k (a_c (e_v rfl) (a_c e_k a_n))) c1)))),by simpa using r1,⟨Nat.zero_le _,Nat.le_refl _⟩,Nat.le_refl _⟩
   · obtain ⟨z,v,y,xt,yt,xh,yh,w1,S1,c1,q⟩ := parts_r m (mk_pos m (by rw [e0]; simp)) hw al
     have e1 := q.hts
     subst e1
     have c2 := size_ok q.mx S1
     have hx := q.hh.l
     have hy := q.hh.r
     have hi : opIs d .non = some (.bl false) := by rw [ed]; rfl
     simp only [List.length_append,List.length_cons] at hl hp
     by_cases h1 : p ≤ xt.length
     · obtain ⟨d1,g,w2,S2,c3,r2,⟨b1,b2⟩,b3⟩ := put_in_ok f q.wt.at_ q.mx (by omega) h1 ht q.ax (by omega)
       have r2 := r2.after q.wt
       obtain ⟨⟨k1,k2⟩,k3⟩ := p1 q.hh q.h1 q.h2 b1 b2
       obtain ⟨d2,g2,w3,S3,c4,r3,b5,b6,b7⟩ := balanced_ok r2.wt.at_ r2.mm q.my q.ht k1 k2 (by rw [put_len]; omega) r2.all q.ay.app
       have r3 := r3.after r2.wt
       exact ⟨d2,g2,_,S3,b_rt rfl (st_seq (st_pass (b_of (e_2 (e_v rfl) e_k hi))) (st_seq (st_set (e_call (a_c (e_v rfl) (a_c (e_v rfl) a_n)) c1)) (st_seq (st_set (e_call (a_c (e_2s (e_v rfl) e_k rfl) a_n) c2)) (st_seqR (st_then (b_of (e_2 (e_v rfl) (e_v rfl) (le_T h1))) (st_ret (e_call (a_c (e_v rfl) (a_c (e_call (a_c (e_v rfl) (a_c (e_2s (e_v rfl) e_k rfl) (a_c (e_v rfl) (a_c (e_v rfl) a_n)))) c3) (a_c (e_2s (e_v rfl) e_k rfl) (a_c (e_2s (e_v rfl) e_k rfl) a_n)))) c4))))))),by rw [put_l h1]; exact r3,k3 _ b5 b6,few_o q.hh q.few b3 b7⟩
     · obtain ⟨z',e⟩ : ∃ z,p = xt.length + 1 + z := ⟨p - xt.length - 1,by omega⟩
       obtain ⟨d1,g,w2,S2,c3,r2,⟨b1,b2⟩,b3⟩ := put_in_ok f (p := z') q.wt.at_ q.my (by omega) (by omega) ht q.ay (by omega)
       have r2 := r2.after q.wt
       obtain ⟨⟨k1,k2⟩,k3⟩ := p1 q.hh.sym q.h2 q.h1 b1 b2
       obtain ⟨d2,g2,w3,S3,c4,r3,b5,b6,b7⟩ := balanced_ok r2.wt.at_ q.mx r2.mm q.ht k2 k1 (by rw [put_len]; omega) q.ax.app r2.all
       have r3 := r3.after r2.wt
       exact ⟨d2,g2,_,S3,b_rt rfl (st_seq (st_pass (b_of (e_2 (e_v rfl) e_k hi))) (st_seq (st_set (e_call (a_c (e_v rfl) (a_c (e_v rfl) a_n)) c1)) (st_seq (st_set (e_call (a_c (e_2s (e_v rfl) e_k rfl) a_n) c2)) (st_seq (st_pass (b_of (e_2 (e_v rfl) (e_v rfl) (le_F h1)))) (st_ret (e_call (a_c (e_v rfl) (a_c (e_2s (e_v rfl) e_k rfl) (a_c (e_2s (e_v rfl) e_k rfl) (a_c (e_call (a_c (e_v rfl) (a_c (e_2s (e_v rfl) e_k rfl) (a_c (e_sub2 (e_v rfl) (e_v rfl) e) (a_c (e_v rfl) a_n)))) c3) a_n)))) c4)))))),by rw [e,put_r]; exact r3,k3 _ b5.sym fun u v => (b6 v u).sym,few_o' q.hh q.few b3 b7⟩
theorem chain2 {p m : Nat} {f g w : E} (hp : p < m) (h0 : f ev S = some (.int (0 : Nat),S)) (h1 : g ev S = some (.int p,S)) (h2 : w ev S = some (.int m,S)) : eChain opLe opLt f g w ev S = some (.bl true,S) := by
 simp only [eChain,h0,h1,h2,Option.bind_some,le_T (Nat.zero_le p),lt_T hp,Option.map_some]
theorem place_ok {p m : Nat} (hp : p < m) (S : Sto) : g_check_place [.int p,.int m] S = some (.non,S) := b_nx rfl (st_pass (b_nT (b_of (chain2 hp e_k (e_v rfl) (e_v rfl)))))
theorem at_ok {p : Nat} (m : Mk k d ts h) (hl : ts.length ≤ 2000) (hp : ts[p]? = some x) (S : Sto) : g_at [d,.int p] S = some (x,S) :=
 b_rt rfl (st_seq (st_drop (e_call (a_c (e_v rfl) (a_c (e_call (a_c (e_v rfl) a_n) (size_ok m S)) a_n)) (place_ok (List.getElem?_eq_some_iff.mp hp).1 S))) (st_ret (e_call (a_c (e_v rfl) (a_c e_k (a_c (e_v rfl) a_n))) (thing_at_ok 40 (b := false) m (Nat.le_trans (h15 m hl) (by decide)) hp S))))
theorem add1 (x : Nat) : opAdd (.int x) (.int 1) = some (.int (x + 1 : Nat)) := rfl
theorem put_ok {p : Nat} (hw : S[i]? = some (wd (addv k) n)) (m : Mk k d ts h) (hl : ts.length < 2000) (hp : p ≤ ts.length) (ht : Thing k x) (al : All P d) :
   ∃ d' h' new S',g_put [.obj i,d,.int p,x] S = some (d',S') ∧ Res k i S n P (ts.take p ++ x :: ts.drop p) d' h' new S' ∧ new.length ≤ 9 * h + 1 := by
 have h1 := h15 m (Nat.le_of_lt hl)
 obtain ⟨d',h',new,S1,c,r,_,b⟩ := put_in_ok 40 hw m hl hp ht al (by omega)
 exact ⟨d',h',new,S1,b_rt rfl (st_seq (st_drop (e_call (a_c (e_v rfl) (a_c (e_2 (e_call (a_c (e_v rfl) a_n) (size_ok m S)) e_k (add1 _)) a_n)) (place_ok (Nat.lt_succ_of_le hp) S))) (st_seq (st_drop (e_call (a_c (e_2 (e_call (a_c (e_v rfl) a_n) (size_ok m S)) e_k (add1 _)) a_n) (room_ok hl S))) (st_ret (e_call (a_c (e_v rfl) (a_c (e_v rfl) (a_c (e_v rfl) (a_c (e_v rfl) a_n)))) c)))),r,b⟩
theorem st_append {q j : Nat} {v : E} {us : List D} (he : ev[q]? = some (some (.obj j))) (hj : S[j]? = some (.lst us)) (hv : v ev S = some (x,S)) (hl : us.length < 16777216) : sAppend (eV q) v ev S = some (.nx ev,S.set j (.lst (us ++ [x]))) := by
 have hz : sizeLine = 16777216 := sizeLine_eq
 simp only [sAppend,e_v he,Option.bind_some,hj,hv,hz,if_pos hl]
theorem gather_ok : ∀ (f : Nat) {d : D} {ts : List D} {h j : Nat} {b : Bool} {acc : List D} {S : Sto},Mk k d ts h → h < f → S[j]? = some (.lst acc) → acc.length + ts.length < 16777216 → g_gather f [d,.bl b,.obj j] S = some (.non,S.set j (.lst (acc ++ ord b ts)))
 | 0,_,_,_,_,_,_,_,_,hf,_,_ => absurd hf (Nat.not_lt_zero _)
 | f + 1,d,ts,h,j,b,acc,S,m,hf,hj,hl => by
   rcases tup_or m with ⟨rfl,rfl,rfl⟩ | ⟨⟨xs,ed⟩,u0,r0,e0⟩
   · rw [show ord b ([] : List D) = [] by cases b <;> rfl,List.append_nil]
     have : S.set j (.lst acc) = S := by
       obtain ⟨hj',ej⟩ := List.getElem?_eq_some_iff.mp hj
       rw [← ej]; exact List.set_getElem_self hj'
     rw [this]
     exact b_rt rfl (st_seqR (st_then (b_of (e_2 (e_v rfl) e_k rfl)) rfl))
   · obtain ⟨u,t,y,c,xt,yt,xh,yh,c1,s⟩ := seen_ok m (mk_pos m (by rw [e0]; simp)) b S
     have hi : opIs d .non = some (.bl false) := by rw [ed]; rfl
     have hu := s.hu
     have hlen : ts.length = xt.length + (yt.length + 1) := by
       have := congrArg List.length hu
       rw [ord_len,List.length_append,List.length_cons,ord_len,ord_len] at this
       exact this
     have hx := s.hx
     have hy := s.hy
     have lx := ord_len c xt
     have ly := ord_len c yt
     have c2 := gather_ok f (b := c) (S := S) s.mx (by omega) hj (by omega)
     have j2 : (S.set j (.lst (acc ++ ord c xt)))[j]? = some (.lst (acc ++ ord c xt)) := set_at hj
     have j3 : ((S.set j (.lst (acc ++ ord c xt))).set j (.lst (acc ++ ord c xt ++ [t])))[j]? = some (.lst (acc ++ ord c xt ++ [t])) := set_at j2
     have c3 := gather_ok f (b := c) s.my (by omega) j3 (by simp only [List.length_append,List.length_cons,List.length_nil]; omega)
     have e5 : ((S.set j (.lst (acc ++ ord c xt))).set j (.lst (acc ++ ord c xt ++ [t]))).set j (.lst (acc ++ ord c xt ++ [t] ++ ord c yt)) = S.set j (.lst (acc ++ ord b ts)) := by rw [List.set_set,List.set_set,show acc ++ ord c xt ++ [t] ++ ord c yt = acc ++ ord b ts by rw [hu]; simp]
     rw [e5] at c3
     exact b_nx rfl (st_seq (st_pass (b_of (e_2 (e_v rfl) e_k hi))) (st_seq (st_set (e_call (a_c (e_v rfl) (a_c (e_v rfl) a_n)) c1)) (st_seq (st_drop (e_call (a_c (e_2s (e_v rfl) e_k rfl) (a_c (e_2s (e_v rfl) e_k rfl) (a_c (e_v rfl) a_n))) c2)) (st_seq (st_append rfl j2 (e_2s (e_v rfl) e_k rfl) (by simp only [List.length_append]; omega)) (st_drop (e_call (a_c (e_2s (e_v rfl) e_k rfl) (a_c (e_2s (e_v rfl) e_k rfl) (a_c (e_v rfl) a_n))) c3))))))
def SB (S : Sto) : Prop := ∀ m ∈ S,bndM S.length m = true
theorem bnd_thing {m : Nat} (hx : Thing k x) : bnd m x = true := by
 cases sv_thing hx with
 | non => rfl
 | int i => rfl
 | str z => rfl
 | pair a b => rfl
theorem bndL_things {m : Nat} : ∀ {ts : List D},(∀ x ∈ ts,Thing k x) → bndL m ts = true
 | [],_ => rfl
 | t :: ts,h => by
   unfold bndL
   rw [bnd_thing (h t (List.mem_cons_self ..)),bndL_things fun x hx => h x (List.mem_cons_of_mem _ hx)]; rfl
theorem wd_bnd (m : Nat) (n : Int) : bndM m (wd (addv k) n) = true := by
 unfold wd bndM addv
 by_cases hk : k = 0
 · simp [hk,bndL,bnd]
 · simp [hk,bndL,bnd]
theorem things_of_ok (m : Mk k d ts h) (hl : ts.length ≤ 2000) (hb : SB S) : g_things_of [d] S = some (.lst ts,S) := by
 have h1 := h15 m hl
 have c1 := gather_ok 40 (b := false) (S := S ++ [.lst []]) (j := S.length) (acc := []) m (by omega) (last_at S _) (by simp only [List.length_nil]; omega)
 have e1 : (S ++ [MO.lst []]).set S.length (.lst ([] ++ ord false ts)) = S ++ [.lst ts] := by simp [ord]
 rw [e1] at c1
 have c2 : bodyF 2 1 c_things_of [d] S = some (.obj S.length,S ++ [.lst ts]) := b_rt rfl (st_seq (st_set (e_newL a_n (Nat.zero_le _))) (st_seq (st_drop (e_call (a_c (e_v rfl) (a_c e_k (a_c (e_v rfl) a_n))) c1)) (st_ret (e_v rfl))))
 have e2 : (S ++ [MO.lst ts]).take S.length = S := List.take_left
 have e3 : S.all (bndM S.length) = true := List.all_eq_true.mpr hb
 unfold g_things_of frz
 rw [c2]
 simp only [Option.bind_some,e2,e3,if_true,Nat.lt_irrefl,if_false,last_at,bndL_things m.things]
end Pg
set_option maxHeartbeats 4000000
namespace Pg
open PySem L2 F Mt
variable {k : Nat} [Kd k] {d l r t x y : D} {ts lt rt : List D} {h lh rh i : Nat} {n : Int} {S S0 S1 : Sto} {ev e : Ev} {P Q : D → Prop} {a b new : List D}
theorem all_T (m : Mk k d ts h) : All (fun _ => True) d := by
 induction m with
 | non => exact .non
 | node _ _ _ _ _ il ir => exact .node trivial il ir
theorem sx (m d v : Nat) : HT.sIx m d (some (v : Int)) = min v m := by
 show (if (v : Int) < 0 then ((v : Int) + (m : Int)).toNat else min (v : Int).toNat m) = min v m
 rw [if_neg (by omega),Int.toNat_natCast]
theorem sl_from {s : Nat} (hs : s ≤ ts.length) : opSl (.lst ts) (some (s : Int)) none = some (.lst (ts.drop s)) := by
 show some (D.lst ((ts.drop (HT.sIx ts.length 0 (some (s : Int)))).take (ts.length - HT.sIx ts.length 0 (some (s : Int))))) = _
 rw [sx,Nat.min_eq_left hs,List.take_of_length_le (by rw [List.length_drop]; omega)]
theorem mod_pos (m : Int) {c : Nat} (hc : 0 < c) : ∃ e : Nat,e < c ∧ opMod (.int m) (.int (c : Int)) = some (.int e) := by
 have x0 := Int.emod_nonneg m (show (c : Int) ≠ 0 by omega)
 have x1 := Int.emod_lt_of_pos m (show (0 : Int) < (c : Int) by omega)
 exact ⟨(m % (c : Int)).toNat,by omega,by rw [mod_e (by omega),show (((m % (c : Int)).toNat : Nat) : Int) = m % (c : Int) by omega]⟩
theorem rng {c : Nat} (h : c ≤ 10000) : ∀ x ∈ rangeD 0 c,∃ i : Int,x = .int i ∧ 0 ≤ i ∧ i < 10000 := fun x hx => by
 unfold rangeD at hx
 obtain ⟨j,hj,rfl⟩ := List.mem_map.mp hx
 have := List.mem_range.mp hj
 exact ⟨_,rfl,by omega,by omega⟩
theorem rng_len (c : Nat) : (rangeD 0 c).length = c := by simp [rangeD]
end Pg
set_option maxHeartbeats 4000000
namespace Pg
open PySem L2 F Mt
variable {k : Nat} [Kd k] {d l r t x y : D} {ts us lt rt : List D} {h lh rh i : Nat} {n : Int} {S S0 S1 : Sto} {ev e : Ev} {P Q : D → Prop}
theorem scr_at (ns : List Int) {q : Int} (h0 : 0 ≤ q) (h1 : q < ns.length) : ∃ v : Int,atI (ns.map D.int) q = some (.int v) := by
 have hi : q.toNat < ns.length := by omega
 have e2 : (ns.map D.int)[q.toNat]? = some (.int ns[q.toNat]) := by
   rw [List.getElem?_map,List.getElem?_eq_getElem hi]; rfl
 have e3 := atI_nat e2
 rw [show ((q.toNat : Nat) : Int) = q by omega] at e3
 exact ⟨_,e3⟩
theorem p30 : opPow (.int 10) (.int 30) = some (.int (10 ^ 30)) := by
 have : powI 10 30 = some (10 ^ 30) := by unfold powI; rw [if_pos (by decide)]; rfl
 simp only [opPow,F.opI,this]; rfl
theorem cell_ok (ns : List Int) (hn : ns.length ≤ 63) {q : Int} (h0 : 0 ≤ q) (h1 : q ≤ 1000000) : ∃ m : Int,0 ≤ m ∧ m < 999999937 ∧ ∀ S,g__law_cell [.lst (ns.map D.int),.int q] S = some (.int m,S) := by
 have len : ∀ S : Sto,lenD S [.lst (ns.map D.int)] = some (.int (ns.length : Int)) := fun S => by simp [lenD]
 have first : ∀ (S : Sto),sSet 2 (e2 opAdd (e2 opMul (e2 opMul (eV 1) (eV 1)) (eK (.int 7919))) (eK (.int 17))) [some (.lst (ns.map D.int)),some (.int q),none] S = some (.nx [some (.lst (ns.map D.int)),some (.int q),some (.int (q * q * 7919 + 17))],S) := fun S =>
   st_set (e_2 (e_2 (e_2 (e_v rfl) (e_v rfl) (mul_eL (by omega))) e_k (mul_eR (by decide))) e_k (add_int _ _))
 have last : ∀ (c : Int) (S : Sto),sRet (e2 opMod (e2 opMul (e2 opMod (e2 opAdd (e2 opMul (eV 2) (eK (.int 48271))) (e2 opMul (eV 1) (eK (.int 69621)))) (eK (.int 2147483647))) (e2 opAdd (e2 opMod (eV 2) (eK (.int 65521))) (eK (.int 3)))) (eK (.int 999999937))) [some (.lst (ns.map D.int)),some (.int q),some (.int c)] S = some (.rt (.int ((c * 48271 + q * 69621) % 2147483647 * (c % 65521 + 3) % 999999937)),S) := fun c S => by
   have y0 := Int.emod_nonneg (c * 48271 + q * 69621) (show (2147483647 : Int) ≠ 0 by decide)
   have y1 := Int.emod_lt_of_pos (c * 48271 + q * 69621) (show (0 : Int) < 2147483647 by decide)
   exact st_ret (e_2 (e_2 (e_2 (e_2 (e_2 (e_v rfl) e_k (mul_eR (by decide))) (e_2 (e_v rfl) e_k (mul_eR (by decide))) (add_int _ _)) e_k (mod_e (by decide))) (e_2 (e_2 (e_v rfl) e_k (mod_e (by decide))) e_k (add_int _ _)) (mul_eL (by omega))) e_k (mod_e (by decide)))
 by_cases z : 0 < (ns.length : Int)
 · have x0 := Int.emod_nonneg q (show (ns.length : Int) ≠ 0 by omega)
   have x1 := Int.emod_lt_of_pos q z
   obtain ⟨v,hv⟩ := scr_at ns x0 x1
   refine ⟨_,Int.emod_nonneg _ (by decide),Int.emod_lt_of_pos _ (by decide),fun S => b_rt rfl (st_seq (first S) (st_seq (st_then (b_of (e_2 (e_a (a_c (e_v rfl) a_n) (len _)) e_k (show opGt (.int (ns.length : Int)) (.int 0) = some (.bl true) by simp [opGt,opIB]; omega)))
     (st_set (e_2 (e_2 (e_2s (e_v rfl) (e_2 (e_v rfl) (e_a (a_c (e_v rfl) a_n) (len _)) (mod_e z)) hv) (e_2 e_k e_k p30) (mod_e (by decide))) (e_2 (e_2 (e_v rfl) (e_a (a_c (e_v rfl) a_n) (len _)) (div_e ⟨z,by omega⟩)) e_k (mul_eR (by decide))) (add_int _ _)))) (last _ S)))⟩
 · exact ⟨_,Int.emod_nonneg _ (by decide),Int.emod_lt_of_pos _ (by decide),fun S => b_rt rfl (st_seq (first S) (st_seq (st_pass (b_of (e_2 (e_a (a_c (e_v rfl) a_n) (len _)) e_k (show opGt (.int (ns.length : Int)) (.int 0) = some (.bl false) from (by show some (D.bl (decide ((0 : Int) < (ns.length : Int)))) = _; rw [decide_eq_false z]))))) (last _ S)))⟩
theorem st_forR {i : Nat} {f : E} {b : C} {n : Int} {o : Out} {S2 : Sto} (h : f ev S = some (.int n,S1)) (h0 : 0 ≤ n) (h1 : n < 1000000) (q : loopF i b (rangeD 0 n.toNat) ev S1 = some (o,S2)) : sForR i f b ev S = some (o,S2) := by
 have cnd : -(2 ^ 62) ≤ n ∧ n < 2 ^ 62 := by omega
 simp only [sForR,h,Option.bind_some,if_pos cnd,q]
theorem st_forL {i : Nat} {f : E} {b : C} {ds : List D} {o : Out} {S2 : Sto} (h : f ev S = some (.lst ds,S1)) (q : loopF i b ds ev S1 = some (o,S2)) : sForL i f b ev S = some (o,S2) := by
 simp only [sForL,h,Option.bind_some,q]
theorem loop_nx {i : Nat} {b : C} {d : D} {ds : List D} {e1 : Ev} {o : Out} {S2 : Sto} (h : b (ev.set i (some d)) S = some (.nx e1,S1)) (q : loopF i b ds e1 S1 = some (o,S2)) : loopF i b (d :: ds) ev S = some (o,S2) := by
 unfold loopF; rw [h]; exact q
theorem frz_lst {g : G} {ds us : List D} {J : Sto} (hS : SB S) (hg : g ds S = some (.lst us,S ++ J)) (hb : bndL S.length us = true) : frz g ds S = some (.lst us,S) := by
 unfold frz
 rw [hg]
 have e1 : (S ++ J).take S.length = S := List.take_left
 have e2 : S.all (bndM S.length) = true := List.all_eq_true.mpr hS
 simp only [Option.bind_some,e1,e2,if_true,bnd,hb]
theorem range_cons (lo : Int) (m : Nat) : rangeD lo (m + 1) = .int lo :: rangeD (lo + 1) m := by
 unfold rangeD
 rw [List.range_succ_eq_map,List.map_cons,List.map_map]
 congr 1
 · simp
 · refine List.map_congr_left fun z _ => ?_
   simp; omega
end Pg
set_option maxHeartbeats 4000000
namespace Pg
open PySem L2 F Mt
structure Sw (T : D → Prop) (lt : D → D → Bool) : Prop where
 irr : ∀ x,T x → lt x x = false
 tr : ∀ x y z,T x → T y → T z → lt x y = true → lt y z = true → lt x z = true
 co : ∀ x y z,T x → T y → T z → lt x z = true → lt x y = true ∨ lt y z = true
section
variable {T : D → Prop} {lt : D → D → Bool}
def alk (lt : D → D → Bool) (x y : D) : Prop := lt x y = false ∧ lt y x = false
theorem alk.symm {x y : D} (h : alk lt x y) : alk lt y x := ⟨h.2,h.1⟩
theorem Sw.asy (w : Sw T lt) {x y : D} (hx : T x) (hy : T y) (h : lt x y = true) : lt y x = false := by
 cases q : lt y x with
 | false => rfl
 | true => have := w.irr x hx; rw [w.tr x y x hx hy hx h q] at this; cases this
theorem Sw.refl (w : Sw T lt) {x : D} (hx : T x) : alk lt x x := ⟨w.irr x hx,w.irr x hx⟩
theorem Sw.trans (w : Sw T lt) {x y z : D} (hx : T x) (hy : T y) (hz : T z) (h1 : alk lt x y) (h2 : alk lt y z) : alk lt x z := by
 constructor
 · cases q : lt x z with
   | false => rfl
   | true => rcases w.co x y z hx hy hz q with r | r
             · rw [h1.1] at r; cases r
             · rw [h2.1] at r; cases r
 · cases q : lt z x with
   | false => rfl
   | true => rcases w.co z y x hz hy hx q with r | r
             · rw [h2.2] at r; cases r
             · rw [h1.2] at r; cases r
theorem Sw.lt_alk (w : Sw T lt) {x y z : D} (hx : T x) (hy : T y) (hz : T z) (h1 : lt x y = true) (h2 : alk lt y z) : lt x z = true := by
 rcases w.co x z y hx hz hy h1 with r | r
 · exact r
 · rw [h2.2] at r; cases r
theorem Sw.alk_lt (w : Sw T lt) {x y z : D} (hx : T x) (hy : T y) (hz : T z) (h1 : alk lt x y) (h2 : lt y z = true) : lt x z = true := by
 rcases w.co y x z hy hx hz h2 with r | r
 · rw [h1.2] at r; cases r
 · exact r
def Srt (lt : D → D → Bool) (l : List D) : Prop := l.Pairwise fun x y => lt x y = true
def Al (T : D → Prop) (l : List D) : Prop := ∀ x ∈ l,T x
theorem Al.tail {x : D} {l : List D} (h : Al T (x :: l)) : Al T l := fun y hy => h y (List.mem_cons_of_mem _ hy)
theorem Al.head {x : D} {l : List D} (h : Al T (x :: l)) : T x := h x (List.mem_cons_self ..)
inductive F2 (R : D → D → Prop) : List D → List D → Prop
 | nil : F2 R [] []
 | cons {x y : D} {l m : List D} : R x y → F2 R l m → F2 R (x :: l) (y :: m)
theorem F2.len {R : D → D → Prop} {l m : List D} (h : F2 R l m) : l.length = m.length := by
 induction h with
 | nil => rfl
 | cons _ _ ih => rw [List.length_cons,List.length_cons,ih]
theorem row_ext (w : Sw T lt) {R : D → D → Prop} (hR : ∀ x y,R x y → alk lt x y) : ∀ {l m : List D},Al T l → Al T m → Srt lt l → Srt lt m → (∀ x ∈ l,∃ y ∈ m,R x y) → (∀ y ∈ m,∃ x ∈ l,R x y) → F2 R l m
 | [],[],_,_,_,_,_,_ => .nil
 | [],y :: m,_,_,_,_,_,h => by obtain ⟨x,hx,_⟩ := h y (List.mem_cons_self ..); cases hx
 | x :: l,[],_,_,_,_,h,_ => by obtain ⟨y,hy,_⟩ := h x (List.mem_cons_self ..); cases hy
 | x :: l,y :: m,al,am,sl,sm,h1,h2 => by
   obtain ⟨sx,sl'⟩ := List.pairwise_cons.mp sl
   obtain ⟨sy,sm'⟩ := List.pairwise_cons.mp sm
   have tx := al.head
   have ty := am.head
   have hxy : R x y := by
     obtain ⟨y',hy',r1⟩ := h1 x (List.mem_cons_self ..)
     rcases List.mem_cons.mp hy' with rfl | hy'
     · exact r1
     · obtain ⟨x',hx',r2⟩ := h2 y (List.mem_cons_self ..)
       rcases List.mem_cons.mp hx' with rfl | hx'
       · exact r2
       · have e1 := w.lt_alk ty (am.tail y' hy') tx (sy y' hy') (hR _ _ r1).symm
         have e2 := w.lt_alk tx (al.tail x' hx') ty (sx x' hx') (hR _ _ r2)
         rw [w.asy ty tx e1] at e2; cases e2
   refine .cons hxy (row_ext w hR al.tail am.tail sl' sm' (fun z hz => ?_) fun z hz => ?_)
   · obtain ⟨u,hu,r⟩ := h1 z (List.mem_cons_of_mem _ hz)
     rcases List.mem_cons.mp hu with rfl | hu
     · have e := w.alk_lt tx (al.tail z hz) (al.tail z hz) |> fun _ => sx z hz
       have := w.trans tx ty (al.tail z hz) (hR _ _ hxy) (hR _ _ r).symm
       rw [this.1] at e; cases e
     · exact ⟨u,hu,r⟩
   · obtain ⟨u,hu,r⟩ := h2 z (List.mem_cons_of_mem _ hz)
     rcases List.mem_cons.mp hu with rfl | hu
     · have e := sy z hz
       have := w.trans ty tx (am.tail z hz) (hR _ _ hxy).symm (hR _ _ r)
       rw [this.1] at e; cases e
     · exact ⟨u,hu,r⟩
theorem row_eq (w : Sw T lt) {l m : List D} (al : Al T l) (am : Al T m) (sl : Srt lt l) (sm : Srt lt m) (h : ∀ x,x ∈ l ↔ x ∈ m) : l = m := by
 have e : F2 (fun x y => x = y ∧ T x) l m := row_ext w (R := fun x y => x = y ∧ T x) (fun x y r => r.1 ▸ w.refl r.2) al am sl sm (fun x hx => ⟨x,(h x).mp hx,rfl,al x hx⟩) fun x hx => ⟨x,(h x).mpr hx,rfl,am x hx⟩
 clear al am sl sm h
 induction e with
 | nil => rfl
 | cons h _ ih => rw [h.1,ih]
open Classical in
noncomputable def hs (lt : D → D → Bool) (l : List D) (x : D) : Bool := decide (∃ y ∈ l,alk lt y x)
open Classical in
theorem hs_iff {l : List D} {x : D} : hs lt l x = true ↔ ∃ y ∈ l,alk lt y x := by unfold hs; exact decide_eq_true_iff
theorem hs_no {l : List D} {x : D} : hs lt l x = false ↔ ∀ y ∈ l,¬ alk lt y x := by
 rw [Bool.eq_false_iff,ne_eq,hs_iff]
 exact ⟨fun h y hy r => h ⟨y,hy,r⟩,fun h ⟨y,hy,r⟩ => h y hy r⟩
theorem hs_self (w : Sw T lt) {l : List D} {x : D} (al : Al T l) (hx : x ∈ l) : hs lt l x = true := hs_iff.mpr ⟨x,hx,w.refl (al x hx)⟩
def cb (lt : D → D → Bool) (l : List D) (x : D) : Nat := (l.filter (lt · x)).length
theorem cb_cut (w : Sw T lt) {a b : List D} {t x : D} (al : Al T (a ++ t :: b)) (tx : T x) (s : Srt lt (a ++ t :: b)) : cb lt (a ++ t :: b) x = if lt t x = true then a.length + 1 + cb lt b x else cb lt a x := by
 have tt : T t := al t (by simp)
 obtain ⟨sa,sb,sab⟩ := List.pairwise_append.mp s
 obtain ⟨st,sb'⟩ := List.pairwise_cons.mp sb
 unfold cb
 rw [List.filter_append,List.length_append,List.filter_cons]
 split
 · rename_i h
   have e : a.filter (lt · x) = a := List.filter_eq_self.mpr fun y hy => w.tr y t x (al y (by simp [hy])) tt tx (sab y hy t (List.mem_cons_self ..)) h
   rw [e,List.length_cons]; omega
 · rename_i h
   have e : b.filter (lt · x) = [] := List.filter_eq_nil_iff.mpr fun y hy q => h (w.tr t y x tt (al y (by simp [hy])) tx (st y hy) q)
   rw [e]; simp
theorem cb_le (l : List D) (x : D) : cb lt l x ≤ l.length := List.length_filter_le ..
theorem cb_split (w : Sw T lt) {x : D} (tx : T x) : ∀ {l : List D},Al T l → Srt lt l → (∀ y ∈ l.take (cb lt l x),lt y x = true) ∧ (∀ y ∈ l.drop (cb lt l x),lt y x = false)
 | [],_,_ => ⟨fun y hy => by simp at hy,fun y hy => by simp at hy⟩
 | z :: l,al,s => by
   obtain ⟨sz,sl⟩ := List.pairwise_cons.mp s
   have e := cb_cut w (a := []) (b := l) (t := z) al tx s
   rw [List.nil_append] at e
   by_cases h : lt z x = true
   · rw [if_pos h] at e
     obtain ⟨i1,i2⟩ := cb_split w tx al.tail sl
     rw [e,show [].length + 1 + cb lt l x = cb lt l x + 1 by simp; omega,List.take_succ_cons,List.drop_succ_cons]
     exact ⟨fun y hy => (List.mem_cons.mp hy).elim (fun q => q ▸ h) (i1 y),i2⟩
   · rw [if_neg h] at e
     have e0 : cb lt (z :: l) x = 0 := e
     rw [e0]
     refine ⟨fun y hy => by simp at hy,fun y hy => ?_⟩
     rcases List.mem_cons.mp hy with rfl | hy
     · exact Bool.eq_false_iff.mpr h
     · exact Bool.eq_false_iff.mpr fun q => h (w.tr z y x al.head (al.tail y hy) tx (sz y hy) q)
theorem hs_at (w : Sw T lt) {x : D} (tx : T x) {l : List D} (al : Al T l) (s : Srt lt l) : hs lt l x = true ↔ ∃ y,l[cb lt l x]? = some y ∧ lt x y = false := by
 obtain ⟨h1,h2⟩ := cb_split w tx al s
 constructor
 · intro h
   obtain ⟨y,hy,r⟩ := hs_iff.mp h
   have hy' : y ∈ l.drop (cb lt l x) := by
     rw [← List.take_append_drop (cb lt l x) l] at hy
     rcases List.mem_append.mp hy with q | q
     · have := r.1; rw [h1 y q] at this; cases this
     · exact q
   cases q : l.drop (cb lt l x) with
   | nil => rw [q] at hy'; cases hy'
   | cons z m =>
     have hz : l[cb lt l x]? = some z := by
       have := List.getElem?_drop (xs := l) (i := cb lt l x) (j := 0)
       rw [q] at this; simpa using this.symm
     refine ⟨z,hz,?_⟩
     have sd : Srt lt (z :: m) := q ▸ List.Pairwise.drop s
     rw [q] at hy'
     rcases List.mem_cons.mp hy' with rfl | hm
     · exact r.2
     · cases g : lt x z with
       | false => rfl
       | true =>
         have tz := al z (List.mem_of_getElem? hz)
         have := w.tr x z y tx tz (al y hy) g ((List.pairwise_cons.mp sd).1 y hm)
         rw [r.2] at this; cases this
 · intro ⟨y,hy,r⟩
   have hm : y ∈ l.drop (cb lt l x) := List.mem_of_getElem? (i := 0) (by rw [List.getElem?_drop]; simpa using hy)
   exact hs_iff.mpr ⟨y,List.mem_of_getElem? hy,h2 y hm,r⟩
theorem put_srt (w : Sw T lt) {x : D} (tx : T x) {l : List D} (al : Al T l) (s : Srt lt l) (h : hs lt l x = false) : Srt lt (l.take (cb lt l x) ++ x :: l.drop (cb lt l x)) := by
 obtain ⟨h1,h2⟩ := cb_split w tx al s
 have hd : ∀ y ∈ l.drop (cb lt l x),lt x y = true := fun y hy => by
   have := hs_no.mp h y (List.mem_of_mem_drop hy)
   cases q : lt x y with
   | true => rfl
   | false => exact absurd ⟨h2 y hy,q⟩ this
 have s0 : Srt lt (l.take (cb lt l x) ++ l.drop (cb lt l x)) := by rw [List.take_append_drop]; exact s
 obtain ⟨sa,sb,sab⟩ := List.pairwise_append.mp s0
 refine List.pairwise_append.mpr ⟨sa,List.pairwise_cons.mpr ⟨hd,sb⟩,fun y hy z hz => ?_⟩
 rcases List.mem_cons.mp hz with rfl | hz
 · exact h1 y hy
 · exact sab y hy z hz
theorem cb_at (w : Sw T lt) {l : List D} (al : Al T l) (s : Srt lt l) {p : Nat} {x : D} (h : l[p]? = some x) : cb lt l x = p := by
 obtain ⟨hp,rfl⟩ := List.getElem?_eq_some_iff.mp h
 have e : l = l.take p ++ l[p] :: l.drop (p + 1) := by rw [← List.drop_eq_getElem_cons hp,List.take_append_drop]
 have tx := al _ (List.getElem_mem hp)
 have := cb_cut w (a := l.take p) (b := l.drop (p + 1)) (t := l[p]) (x := l[p]) (e ▸ al) tx (e ▸ s)
 rw [← e,if_neg (by rw [w.irr _ tx]; simp)] at this
 rw [this]
 unfold cb
 have s' := e ▸ s
 rw [List.filter_eq_self.mpr fun y hy => (List.pairwise_append.mp s').2.2 y hy _ (List.mem_cons_self ..),List.length_take]
 omega
noncomputable def nxt (lt : D → D → Bool) (a : D) : List D → List D
 | [] => []
 | b :: bs => if lt a b = true then b :: bs else bs
theorem nxt_nil (a : D) : nxt lt a [] = [] := rfl
theorem nxt_cons (a d : D) (ds : List D) : nxt lt a (d :: ds) = if lt a d = true then d :: ds else ds := rfl
noncomputable def mrg (lt : D → D → Bool) : List D → List D → List D
 | [],bs => bs
 | a :: as,bs => bs.takeWhile (lt · a) ++ a :: mrg lt as (nxt lt a (bs.dropWhile (lt · a)))
theorem tw_lt {p : D → Bool} : ∀ {l : List D} {y : D},y ∈ l.takeWhile p → p y = true
 | [],y,h => by cases h
 | x :: l,y,h => by
   by_cases q : p x = true
   · rw [List.takeWhile_cons_of_pos q] at h
     rcases List.mem_cons.mp h with rfl | h
     · exact q
     · exact tw_lt h
   · rw [List.takeWhile_cons_of_neg q] at h; cases h
theorem drop_ge (w : Sw T lt) {a : D} (ta : T a) : ∀ {bs : List D},Al T bs → Srt lt bs → ∀ y ∈ bs.dropWhile (lt · a),lt y a = false
 | [],_,_,y,hy => by cases hy
 | b :: bs,al,s,y,hy => by
   obtain ⟨sb,s'⟩ := List.pairwise_cons.mp s
   by_cases h : lt b a = true
   · rw [List.dropWhile_cons_of_pos (p := (lt · a)) h] at hy
     exact drop_ge w ta al.tail s' y hy
   · rw [List.dropWhile_cons_of_neg (p := (lt · a)) h] at hy
     rcases List.mem_cons.mp hy with rfl | hy
     · exact Bool.eq_false_iff.mpr h
     · exact Bool.eq_false_iff.mpr fun q => h (w.tr b y a al.head (al.tail y hy) ta (sb y hy) q)
theorem nxt_mem {a y : D} {ds : List D} (h : y ∈ nxt lt a ds) : y ∈ ds := by
 cases ds with
 | nil => exact h
 | cons d ds =>
   rw [nxt_cons] at h
   split at h
   · exact h
   · exact List.mem_cons_of_mem _ h
theorem nxt_ok (w : Sw T lt) {a : D} (ta : T a) {ds : List D} (al : Al T ds) (s : Srt lt ds) (h : ∀ y ∈ ds,lt y a = false) : (∀ y ∈ nxt lt a ds,lt a y = true) ∧ Srt lt (nxt lt a ds) ∧ ∀ y ∈ ds,y ∈ nxt lt a ds ∨ alk lt a y ∧ y ∉ nxt lt a ds := by
 cases ds with
 | nil => rw [nxt_nil]; exact ⟨fun y hy => (by cases hy),s,fun y hy => (by cases hy)⟩
 | cons d ds =>
   obtain ⟨sd,s'⟩ := List.pairwise_cons.mp s
   rw [nxt_cons]
   split
   · rename_i q
     refine ⟨fun y hy => ?_,s,fun y hy => .inl hy⟩
     rcases List.mem_cons.mp hy with rfl | hy
     · exact q
     · exact w.tr a d y ta al.head (al.tail y hy) q (sd y hy)
   · rename_i q
     have q : lt a d = false := Bool.eq_false_iff.mpr q
     have hd := h d (List.mem_cons_self ..)
     refine ⟨fun y hy => w.alk_lt ta al.head (al.tail y hy) ⟨q,hd⟩ (sd y hy),s',fun y hy => ?_⟩
     rcases List.mem_cons.mp hy with rfl | hy
     · exact .inr ⟨⟨q,hd⟩,fun z => by have := sd y z; rw [w.irr y al.head] at this; cases this⟩
     · exact .inl hy
theorem mrg_ok (w : Sw T lt) : ∀ {as bs : List D},Al T as → Al T bs → Srt lt as → Srt lt bs → Srt lt (mrg lt as bs) ∧ (∀ x,x ∈ mrg lt as bs ↔ x ∈ as ∨ x ∈ bs ∧ hs lt as x = false) ∧ (mrg lt as bs).length = as.length + (bs.filter (fun x => !hs lt as x)).length
 | [],bs,_,_,_,sb => by
   have e : ∀ x,hs lt ([] : List D) x = false := fun x => hs_no.mpr fun y hy => by cases hy
   refine ⟨sb,fun x => ⟨fun h => .inr ⟨h,e x⟩,fun h => h.elim (fun z => by cases z) fun z => z.1⟩,?_⟩
   show bs.length = 0 + _
   rw [List.filter_eq_self.mpr fun x _ => by rw [e x]; rfl]; omega
 | a :: as,bs,al,am,sa,sb => by
   obtain ⟨sa1,sa2⟩ := List.pairwise_cons.mp sa
   have ta := al.head
   have sp : bs = bs.takeWhile (lt · a) ++ bs.dropWhile (lt · a) := List.takeWhile_append_dropWhile.symm
   have s0 : Srt lt (bs.takeWhile (lt · a) ++ bs.dropWhile (lt · a)) := sp ▸ sb
   obtain ⟨s1,s2,s3⟩ := List.pairwise_append.mp s0
   have amD : Al T (bs.dropWhile (lt · a)) := fun y hy => am y (sp ▸ List.mem_append_right _ hy)
   have amT : Al T (bs.takeWhile (lt · a)) := fun y hy => am y (sp ▸ List.mem_append_left _ hy)
   have hT : ∀ y ∈ bs.takeWhile (lt · a),lt y a = true := fun y hy => tw_lt (p := (lt · a)) hy
   obtain ⟨n1,n2,n3⟩ := nxt_ok w ta amD s2 (drop_ge w ta am sb)
   have amN : Al T (nxt lt a (bs.dropWhile (lt · a))) := fun y hy => amD y (nxt_mem hy)
   obtain ⟨i1,i2,i3⟩ := mrg_ok w al.tail amN sa2 n2
   -- of things ahead of a none is there; of things behind a just those of the rest
   have hT0 : ∀ y ∈ bs.takeWhile (lt · a),hs lt (a :: as) y = false := fun y hy => hs_no.mpr fun z hz r => by
     have ty := amT y hy
     rcases List.mem_cons.mp hz with rfl | hz
     · have := r.2; rw [hT y hy] at this; cases this
     · have := w.tr y a z ty ta (al.tail z hz) (hT y hy) (sa1 z hz)
       rw [r.2] at this; cases this
   have hN0 : ∀ y,T y → lt a y = true → hs lt (a :: as) y = hs lt as y := fun y ty q => by
     cases g : hs lt as y with
     | true => obtain ⟨z,hz,r⟩ := hs_iff.mp g; exact hs_iff.mpr ⟨z,List.mem_cons_of_mem _ hz,r⟩
     | false =>
       exact hs_no.mpr fun z hz r => by
         rcases List.mem_cons.mp hz with rfl | hz
         · have := r.1; rw [q] at this; cases this
         · exact hs_no.mp g z hz r
   have inM : ∀ z ∈ mrg lt as (nxt lt a (bs.dropWhile (lt · a))),T z ∧ lt a z = true := fun z hz => by
     rcases (i2 z).mp hz with q | q
     · exact ⟨al.tail z q,sa1 z q⟩
     · exact ⟨amN z q.1,n1 z q.1⟩
   refine ⟨?_,fun x => ?_,?_⟩
   · refine List.pairwise_append.mpr ⟨s1,List.pairwise_cons.mpr ⟨fun z hz => (inM z hz).2,i1⟩,fun y hy z hz => ?_⟩
     rcases List.mem_cons.mp hz with rfl | hz
     · exact hT y hy
     · exact w.tr y a z (amT y hy) ta (inM z hz).1 (hT y hy) (inM z hz).2
   · show x ∈ bs.takeWhile (lt · a) ++ a :: mrg lt as (nxt lt a (bs.dropWhile (lt · a))) ↔ _
     rw [List.mem_append,List.mem_cons]
     constructor
     · rintro (q | rfl | q)
       · exact .inr ⟨by rw [sp]; exact List.mem_append_left _ q,hT0 x q⟩
       · exact .inl (List.mem_cons_self ..)
       · rcases (i2 x).mp q with r | r
         · exact .inl (List.mem_cons_of_mem _ r)
         · exact .inr ⟨by rw [sp]; exact List.mem_append_right _ (nxt_mem r.1),by rw [hN0 x (amN x r.1) (n1 x r.1)]; exact r.2⟩
     · rintro (q | ⟨q,r⟩)
       · rcases List.mem_cons.mp q with rfl | q
         · exact .inr (.inl rfl)
         · exact .inr (.inr ((i2 x).mpr (.inl q)))
       · rw [sp] at q
         rcases List.mem_append.mp q with q | q
         · exact .inl q
         · rcases n3 x q with z | z
           · exact .inr (.inr ((i2 x).mpr (.inr ⟨z,by rw [← hN0 x (amN x z) (n1 x z)]; exact r⟩)))
           · exact absurd z.1 (hs_no.mp r a (List.mem_cons_self ..))
   · show (bs.takeWhile (lt · a) ++ a :: mrg lt as (nxt lt a (bs.dropWhile (lt · a)))).length = (as.length + 1) + _
     have e1 : (bs.takeWhile (lt · a)).filter (fun x => !hs lt (a :: as) x) = bs.takeWhile (lt · a) := List.filter_eq_self.mpr fun y hy => by rw [hT0 y hy]; rfl
     have e2 : ((bs.dropWhile (lt · a)).filter (fun x => !hs lt (a :: as) x)).length = ((nxt lt a (bs.dropWhile (lt · a))).filter (fun x => !hs lt as x)).length := by
       have key : (nxt lt a (bs.dropWhile (lt · a))).filter (fun x => !hs lt (a :: as) x) = (nxt lt a (bs.dropWhile (lt · a))).filter (fun x => !hs lt as x) := List.filter_congr fun y hy => by rw [hN0 y (amN y hy) (n1 y hy)]
       rw [← key]
       generalize bs.dropWhile (lt · a) = ds at n1 n2 n3 amD amN
       cases ds with
       | nil => rfl
       | cons d ds =>
         rw [nxt_cons] at n1 n2 n3 amN ⊢
         split
         · rfl
         · rename_i q
           have hd : alk lt a d := by
             rcases n3 d (List.mem_cons_self ..) with z | z
             · exact absurd (n1 d z) q
             · exact z.1
           have : hs lt (a :: as) d = true := hs_iff.mpr ⟨a,List.mem_cons_self ..,hd⟩
           rw [List.filter_cons_of_neg (by rw [this]; simp)]
     rw [List.length_append,List.length_cons,i3]
     conv => rhs; rw [sp,List.filter_append,List.length_append,e1,e2]
     omega
theorem hs_mrg (w : Sw T lt) {as bs : List D} (al : Al T as) (am : Al T bs) (sa : Srt lt as) (sb : Srt lt bs) {x : D} (tx : T x) : hs lt (mrg lt as bs) x = (hs lt as x || hs lt bs x) := by
 have hm := (mrg_ok w al am sa sb).2.1
 rw [Bool.eq_iff_iff,Bool.or_eq_true,hs_iff,hs_iff,hs_iff]
 constructor
 · rintro ⟨y,hy,r⟩
   rcases (hm y).mp hy with q | q
   · exact .inl ⟨y,q,r⟩
   · exact .inr ⟨y,q.1,r⟩
 · rintro (⟨y,hy,r⟩ | ⟨y,hy,r⟩)
   · exact ⟨y,(hm y).mpr (.inl hy),r⟩
   · cases g : hs lt as y with
     | false => exact ⟨y,(hm y).mpr (.inr ⟨hy,g⟩),r⟩
     | true =>
       obtain ⟨z,hz,r2⟩ := hs_iff.mp g
       exact ⟨z,(hm z).mpr (.inl hz),w.trans (al z hz) (am y hy) tx r2 r⟩
theorem mrg_al (w : Sw T lt) {as bs : List D} (al : Al T as) (am : Al T bs) (sa : Srt lt as) (sb : Srt lt bs) : Al T (mrg lt as bs) := fun x hx => ((mrg_ok w al am sa sb).2.1 x).mp hx |>.elim (al x) fun z => am x z.1
theorem mrg_assoc (w : Sw T lt) {a b c : List D} (ta : Al T a) (tb : Al T b) (tc : Al T c) (sa : Srt lt a) (sb : Srt lt b) (sc : Srt lt c) : mrg lt (mrg lt a b) c = mrg lt a (mrg lt b c) := by
 have tab := mrg_al w ta tb sa sb
 have tbc := mrg_al w tb tc sb sc
 obtain ⟨sab,mab,_⟩ := mrg_ok w ta tb sa sb
 obtain ⟨sbc,mbc,_⟩ := mrg_ok w tb tc sb sc
 obtain ⟨s1,m1,_⟩ := mrg_ok w tab tc sab sc
 obtain ⟨s2,m2,_⟩ := mrg_ok w ta tbc sa sbc
 refine row_eq w (mrg_al w tab tc sab sc) (mrg_al w ta tbc sa sbc) s1 s2 fun x => ?_
 rw [m1,m2,mab,mbc]
 constructor
 · rintro ((h | h) | h)
   · exact .inl h
   · exact .inr ⟨.inl h.1,h.2⟩
   · have := h.2
     rw [hs_mrg w ta tb sa sb (tc x h.1),Bool.or_eq_false_iff] at this
     exact .inr ⟨.inr ⟨h.1,this.2⟩,this.1⟩
 · rintro (h | ⟨h | h,g⟩)
   · exact .inl (.inl h)
   · exact .inl (.inr ⟨h,g⟩)
   · exact .inr ⟨h.1,by rw [hs_mrg w ta tb sa sb (tc x h.1),g,h.2]; rfl⟩
theorem mrg_turn (w : Sw T lt) {a b c : List D} (ta : Al T a) (tb : Al T b) (tc : Al T c) (sa : Srt lt a) (sb : Srt lt b) (sc : Srt lt c) : F2 (alk lt) (mrg lt (mrg lt a b) c) (mrg lt c (mrg lt b a)) := by
 have tab := mrg_al w ta tb sa sb
 have tba := mrg_al w tb ta sb sa
 have sab := (mrg_ok w ta tb sa sb).1
 have sba := (mrg_ok w tb ta sb sa).1
 have t1 := mrg_al w tab tc sab sc
 have t2 := mrg_al w tc tba sc sba
 have e1 : ∀ x,T x → hs lt (mrg lt (mrg lt a b) c) x = ((hs lt a x || hs lt b x) || hs lt c x) := fun x tx => by rw [hs_mrg w tab tc sab sc tx,hs_mrg w ta tb sa sb tx]
 have e2 : ∀ x,T x → hs lt (mrg lt c (mrg lt b a)) x = (hs lt c x || (hs lt b x || hs lt a x)) := fun x tx => by rw [hs_mrg w tc tba sc sba tx,hs_mrg w tb ta sb sa tx]
 have e : ∀ x,T x → hs lt (mrg lt (mrg lt a b) c) x = hs lt (mrg lt c (mrg lt b a)) x := fun x tx => by
   rw [e1 x tx,e2 x tx]; cases hs lt a x <;> cases hs lt b x <;> cases hs lt c x <;> rfl
 refine row_ext w (fun x y r => r) t1 t2 (mrg_ok w tab tc sab sc).1 (mrg_ok w tc tba sc sba).1 (fun x hx => ?_) fun y hy => ?_
 · have := hs_self w t1 hx
   rw [e x (t1 x hx)] at this
   obtain ⟨y,hy,r⟩ := hs_iff.mp this
   exact ⟨y,hy,r.symm⟩
 · have := hs_self w t2 hy
   rw [← e y (t2 y hy)] at this
   exact hs_iff.mp this
theorem both_len (w : Sw T lt) {a b : List D} (ta : Al T a) (tb : Al T b) (sa : Srt lt a) (sb : Srt lt b) : (a.filter (hs lt b)).length = (b.filter (hs lt a)).length := by
 have := row_ext w (R := alk lt) (fun x y r => r) (fun x hx => ta x (List.mem_filter.mp hx).1) (fun x hx => tb x (List.mem_filter.mp hx).1) (List.Pairwise.filter _ sa) (List.Pairwise.filter _ sb) (l := a.filter (hs lt b)) (m := b.filter (hs lt a)) (fun x hx => ?_) fun y hy => ?_
 · exact this.len
 · obtain ⟨h1,h2⟩ := List.mem_filter.mp hx
   obtain ⟨y,hy,r⟩ := hs_iff.mp h2
   exact ⟨y,List.mem_filter.mpr ⟨hy,hs_iff.mpr ⟨x,h1,r.symm⟩⟩,r.symm⟩
 · obtain ⟨h1,h2⟩ := List.mem_filter.mp hy
   obtain ⟨x,hx,r⟩ := hs_iff.mp h2
   exact ⟨x,List.mem_filter.mpr ⟨hx,hs_iff.mpr ⟨y,h1,r.symm⟩⟩,r⟩
theorem size_sum (w : Sw T lt) {a b : List D} (ta : Al T a) (tb : Al T b) (sa : Srt lt a) (sb : Srt lt b) : (mrg lt a b).length + (a.filter (hs lt b)).length = a.length + b.length := by
 rw [(mrg_ok w ta tb sa sb).2.2,both_len w ta tb sa sb]
 have : ∀ l : List D,(l.filter (fun x => !hs lt a x)).length + (l.filter (hs lt a)).length = l.length := fun l => by
   induction l with
   | nil => rfl
   | cons x l ih =>
     rw [List.filter_cons,List.filter_cons]
     cases hs lt a x <;> simp <;> omega
 have := this b
 omega
theorem mrg_parts (w : Sw T lt) {a : List D} (p : D → Bool) (ta : Al T a) (sa : Srt lt a) : mrg lt (a.filter fun x => !p x) (a.filter p) = a := by
 have t1 : Al T (a.filter fun x => !p x) := fun x hx => ta x (List.mem_filter.mp hx).1
 have t2 : Al T (a.filter p) := fun x hx => ta x (List.mem_filter.mp hx).1
 have s1 : Srt lt (a.filter fun x => !p x) := List.Pairwise.filter _ sa
 have s2 : Srt lt (a.filter p) := List.Pairwise.filter _ sa
 have uni : ∀ x y,x ∈ a → y ∈ a → alk lt x y → x = y := fun x y hx hy r => by
   obtain ⟨i,hi,rfl⟩ := List.getElem_of_mem hx
   obtain ⟨j,hj,rfl⟩ := List.getElem_of_mem hy
   have := List.pairwise_iff_getElem.mp sa
   rcases Nat.lt_trichotomy i j with h | h | h
   · have := this i j hi hj h; rw [r.1] at this; cases this
   · subst h; rfl
   · have := this j i hj hi h; rw [r.2] at this; cases this
 obtain ⟨s3,m3,_⟩ := mrg_ok w t1 t2 s1 s2
 refine row_eq w (mrg_al w t1 t2 s1 s2) ta s3 sa fun x => ?_
 rw [m3,List.mem_filter,List.mem_filter]
 constructor
 · rintro (h | h)
   · exact h.1
   · exact h.1.1
 · intro h
   cases g : p x with
   | false => exact .inl ⟨h,rfl⟩
   | true =>
     refine .inr ⟨⟨h,rfl⟩,hs_no.mpr fun y hy r => ?_⟩
     obtain ⟨h1,h2⟩ := List.mem_filter.mp hy
     rw [uni y x h1 h r,g] at h2
     cases h2
end
end Pg
set_option maxHeartbeats 4000000
namespace Pg
open PySem L2 F Mt
variable {d d0 l r t x y : D} {ts us rt : List D} {h i j g rh : Nat} {n : Int} {S S0 S1 : Sto} {ev : Ev} {T : D → Prop} {lt : D → D → Bool} {f : LT} {vs : List D}
instance : Kd 0 := ⟨rfl⟩
theorem lt_w (w c : Int) : opLt (.int w) (.int c) = some (.bl (decide (w < c))) := rfl
structure Bf (T : D → Prop) (lt : D → D → Bool) (f : LT) (vs : List D) : Prop where
 two : f.params.args.length = 2
 no : noCL vs = true
 th : ∀ x,T x → Thing 0 x
 ca : ∃ g,clot f = some g ∧ ∀ x y,T x → T y → ∀ S,g ([x,y] ++ vs) S = some (.bl (lt x y),S)
 sw : Sw T lt
theorem noC_th (hx : Thing 0 x) : noC x = true := by
 rcases hx with ⟨i,rfl⟩ | ⟨z,rfl,_⟩ <;> rfl
theorem bef {q : Nat} {e1 e2 : E} (B : Bf T lt f vs) (hn : noCS S = true) (hq : ev[q]? = some (some (.clo f vs))) (h1 : e1 ev S = some (x,S)) (h2 : e2 ev S = some (y,S)) (tx : T x) (ty : T y) : eCallX ft lamt clot (eV q) (aC e1 (aC e2 aN)) ev S = some (.bl (lt x y),S) := by
 obtain ⟨g,hg,hc⟩ := B.ca
 have nn : (noCL [x,y] && noCL vs && noCS S) = true ∧ [x,y].length = f.params.args.length := ⟨by rw [B.no,hn]; simp only [noCL,noC_th (B.th x tx),noC_th (B.th y ty),Bool.and_true],B.two.symm⟩
 simp only [eCallX,e_v hq,Option.bind_some,hg,a_c h1 (a_c h2 a_n),if_pos nn,hc x y tx ty]
theorem count_ok (B : Bf T lt f vs) (hn : noCS S = true) (tx : T x) : ∀ (q : Nat) {d : D} {ts : List D} {h : Nat} {b : Bool},Mk 0 d ts h → h < q → Al T (ord b ts) → Srt lt (ord b ts) → g_count_before q [d,.bl b,x,.clo f vs] S = some (.int (cb lt (ord b ts) x : Nat),S)
 | 0,_,_,_,_,_,hq,_,_ => absurd hq (Nat.not_lt_zero _)
 | q + 1,d,ts,h,b,m,hq,al,s => by
   rcases tup_or m with ⟨rfl,rfl,rfl⟩ | ⟨⟨xs,rfl⟩,u0,rest,e0⟩
   · have e : ord b ([] : List D) = [] := by unfold ord; split <;> rfl
     rw [e]
     exact b_rt rfl (st_seqR (st_then (b_of (e_2 (e_v rfl) e_k rfl)) (st_ret e_k)))
   · have hh : 0 < h := mk_pos m (by rw [e0]; simp)
     obtain ⟨u,t,y,c,xt,yt,xh,yh,c1,sn⟩ := seen_ok m hh b S
     have hu := sn.hu
     have hx := sn.hx
     have hy := sn.hy
     rw [hu] at al s ⊢
     have tt : T t := al t (by simp)
     obtain ⟨sa,sb,_⟩ := List.pairwise_append.mp s
     have sb' := (List.pairwise_cons.mp sb).2
     have aX : Al T (ord c xt) := fun z hz => al z (by simp [hz])
     have aY : Al T (ord c yt) := fun z hz => al z (by simp [hz])
     rw [cb_cut B.sw al tx s]
     have e1 : bE (eCallX ft lamt clot (eV 3) (aC (e2s opIx (eV 4) (eK (.int 1))) (aC (eV 2) aN))) [some (.tup xs),some (.bl b),some x,some (.clo f vs),some (.tup [u,t,y,.bl c])] S = some (lt t x,S) := b_of (bef B hn rfl (e_2s (e_v rfl) e_k rfl) (e_v rfl) tt tx)
     by_cases g : lt t x = true
     · rw [if_pos g]
       rw [g] at e1
       refine b_rt rfl (st_seq (st_pass (b_of (e_2 (e_v rfl) e_k (is_non xs)))) (st_seq (st_set (e_call (a_c (e_v rfl) (a_c (e_v rfl) a_n)) c1)) (st_seqR (st_then e1 (st_ret (e_2 (e_2 (e_call (a_c (e_2s (e_v rfl) e_k rfl) a_n) (size_ok sn.mx S)) e_k (add_int _ _)) (e_call (a_c (e_2s (e_v rfl) e_k rfl) (a_c (e_2s (e_v rfl) e_k rfl) (a_c (e_v rfl) (a_c (e_v rfl) a_n)))) (count_ok B hn tx q sn.my (by omega) aY sb')) ?_))))))
       rw [add_int,ord_len]; congr 2
     · have g' : lt t x = false := Bool.eq_false_iff.mpr g
       rw [if_neg g]
       rw [g'] at e1
       exact b_rt rfl (st_seq (st_pass (b_of (e_2 (e_v rfl) e_k (is_non xs)))) (st_seq (st_set (e_call (a_c (e_v rfl) (a_c (e_v rfl) a_n)) c1)) (st_seq (st_pass e1) (st_ret (e_call (a_c (e_2s (e_v rfl) e_k rfl) (a_c (e_2s (e_v rfl) e_k rfl) (a_c (e_v rfl) (a_c (e_v rfl) a_n)))) (count_ok B hn tx q sn.mx (by omega) aX sa))))))
structure Ste (T : D → Prop) (lt : D → D → Bool) (d : D) (ts : List D) (h : Nat) : Prop where
 mm : Mk 0 d ts h
 al : Al T ts
 sr : Srt lt ts
theorem place_ok' (B : Bf T lt f vs) (hn : noCS S = true) (tx : T x) (s : Ste T lt d ts h) (hl : ts.length ≤ 2000) : g_place_of [d,x,.clo f vs] S = some (.int (cb lt ts x : Nat),S) := by
 have h1 := h15 s.mm hl
 have := count_ok B hn tx 40 (b := false) s.mm (by omega) (show Al T (ord false ts) from s.al) (show Srt lt (ord false ts) from s.sr)
 exact b_rt rfl (st_ret (e_call (a_c (e_v rfl) (a_c e_k (a_c (e_v rfl) (a_c (e_v rfl) a_n)))) this))
theorem alike_ok (B : Bf T lt f vs) (hn : noCS S = true) (tx : T x) (s : Ste T lt d ts h) (hl : ts.length ≤ 2000) : g_is_alike_at [d,.int (cb lt ts x : Nat),x,.clo f vs] S = some (.bl (hs lt ts x),S) := by
 have hat := hs_at B.sw tx s.al s.sr
 by_cases hp : cb lt ts x < ts.length
 · have hy : ts[cb lt ts x]? = some ts[cb lt ts x] := List.getElem?_eq_getElem hp
   have ty := s.al _ (List.getElem_mem hp)
   have e : hs lt ts x = !lt x ts[cb lt ts x] := by
     rw [Bool.eq_iff_iff,hat]
     constructor
     · rintro ⟨y,q,r⟩; rw [hy] at q; cases q; rw [r]; rfl
     · intro q; exact ⟨_,hy,by cases g : lt x ts[cb lt ts x] with | false => rfl | true => rw [g] at q; cases q⟩
   rw [e]
   exact b_rt rfl (st_ret (e_andT (e_2 (e_v rfl) (e_call (a_c (e_v rfl) a_n) (size_ok s.mm S)) ((lt_w _ _).trans (by rw [decide_eq_true (by omega)]))) (e_not (bef B hn rfl (e_v rfl) (e_call (a_c (e_v rfl) (a_c (e_v rfl) a_n)) (at_ok s.mm hl hy S)) tx ty))))
 · have e : hs lt ts x = false := by
     cases g : hs lt ts x with
     | false => rfl
     | true => obtain ⟨y,q,_⟩ := hat.mp g; exact absurd (List.getElem?_eq_some_iff.mp q).1 hp
   rw [e]
   exact b_rt rfl (st_ret (e_andF (e_2 (e_v rfl) (e_call (a_c (e_v rfl) a_n) (size_ok s.mm S)) ((lt_w _ _).trans (by rw [decide_eq_false (by omega)])))))
theorem has_ok (B : Bf T lt f vs) (hn : noCS S = true) (tx : T x) (s : Ste T lt d ts h) (hl : ts.length ≤ 2000) : g_has [d,x,.clo f vs] S = some (.bl (hs lt ts x),S) :=
 b_rt rfl (st_ret (e_call (a_c (e_v rfl) (a_c (e_call (a_c (e_v rfl) (a_c (e_v rfl) (a_c (e_v rfl) a_n))) (place_ok' B hn tx s hl)) (a_c (e_v rfl) (a_c (e_v rfl) a_n)))) (alike_ok B hn tx s hl)))
def tb : MO := .tab "law" ((("law" : Str) ++ ".<locals>.") ++ "<lambda>")
def Z (n : Int) (R : Sto) : Sto := tb :: wd (addv 0) n :: R
theorem z_eq {R : Sto} {new : List D} {T : Sto} (w : Wt 0 1 (Z n R) n new T) : T = Z (n + new.length) R := by
 apply List.ext_getElem?
 intro q
 match q with
 | 0 => rw [w.ne 0 (by omega)]; rfl
 | 1 => exact w.at_
 | q + 2 => rw [w.ne (q + 2) (by omega)]; rfl
structure Rk (R : Sto) : Prop where
 no : R.all noCM = true
 bd : ∀ m ∈ R,bndM (R.length + 2) m = true
theorem Rk.noCS {R : Sto} (k : Rk R) : noCS (Z n R) = true := by
 show (noCM tb && (noCM (wd (addv 0) n) && R.all noCM)) = true
 rw [k.no]; rfl
theorem Rk.sb {R : Sto} (k : Rk R) : SB (Z n R) := fun m hm => by
 show bndM (R.length + 2) m = true
 rcases List.mem_cons.mp hm with rfl | hm
 · rfl
 rcases List.mem_cons.mp hm with rfl | hm
 · exact wd_bnd (k := 0) _ _
 exact k.bd m hm
theorem added_ok {R : Sto} (B : Bf T lt f vs) (k : Rk R) (tx : T x) (s : Ste T lt d ts h) (hl : ts.length < 2000) : ∃ d' ts' h' n',g_added [.obj 1,d,x,.clo f vs] (Z n R) = some (d',Z n' R) ∧ Ste T lt d' ts' h' ∧ ts'.length ≤ ts.length + 1 := by
 have c1 := place_ok' B (k.noCS (n := n)) tx s (by omega)
 have c2 := alike_ok B (k.noCS (n := n)) tx s (by omega)
 cases g : hs lt ts x with
 | true =>
   rw [g] at c2
   exact ⟨d,ts,h,n,b_rt rfl (st_seq (st_set (e_call (a_c (e_v rfl) (a_c (e_v rfl) (a_c (e_v rfl) a_n))) c1)) (st_seqR (st_then (b_of (e_call (a_c (e_v rfl) (a_c (e_v rfl) (a_c (e_v rfl) (a_c (e_v rfl) a_n)))) c2)) (st_ret (e_v rfl))))),s,by omega⟩
 | false =>
   rw [g] at c2
   obtain ⟨d',h',new,T1,c,rr,few⟩ := put_ok (k := 0) (i := 1) (S := Z n R) (n := n) (p := cb lt ts x) (x := x) rfl s.mm hl (cb_le ts x) (B.th x tx) (all_T s.mm)
   have eT := z_eq rr.wt
   subst eT
   exact ⟨d',_,h',n + new.length,b_rt rfl (st_seq (st_set (e_call (a_c (e_v rfl) (a_c (e_v rfl) (a_c (e_v rfl) a_n))) c1)) (st_seq (st_pass (b_of (e_call (a_c (e_v rfl) (a_c (e_v rfl) (a_c (e_v rfl) (a_c (e_v rfl) a_n)))) c2))) (st_ret (e_call (a_c (e_v rfl) (a_c (e_v rfl) (a_c (e_v rfl) (a_c (e_v rfl) a_n)))) c)))),⟨rr.mm,fun z hz => by
     rcases List.mem_append.mp hz with q | q
     · exact s.al z (List.mem_of_mem_take q)
     · rcases List.mem_cons.mp q with rfl | q
       · exact tx
       · exact s.al z (List.mem_of_mem_drop q),put_srt B.sw tx s.al s.sr g⟩,Nat.le_of_eq (put_len _)⟩
theorem mkof_ok {R : Sto} (B : Bf T lt f vs) (al : Al T ts) (sr : Srt lt ts) (hl : ts.length ≤ 2000) : ∃ d h n',g_make_of [.obj 1,.lst ts] (Z n R) = some (d,Z n' R) ∧ Ste T lt d ts h := by
 obtain ⟨d,h,new,T1,c,rr⟩ := make_of_ok (k := 0) (i := 1) (n := n) (P := fun _ => True) (S := Z n R) rfl (fun x hx => B.th x (al x hx)) hl
 have eT := z_eq rr.wt
 subst eT
 exact ⟨d,h,_,c,rr.mm,al,sr⟩
end Pg
set_option maxHeartbeats 4000000
namespace Pg
open PySem L2 F Mt
variable {d d0 d1 d2 l r t x y : D} {ts us as bs acc rt : List D} {h i j g rh h1 h2 : Nat} {n : Int} {S S0 S1 R : Sto} {ev : Ev} {T : D → Prop} {lt : D → D → Bool} {f : LT} {vs : List D}
theorem whl_out {c : B} {b : C} {f : Nat} (h : c ev S = some (false,S)) : whileF c b (f + 1) ev S = some (.nx ev,S) := by
 unfold whileF
 rw [h]
 rfl
theorem whl_in {c : B} {b : C} {f : Nat} {ev' : Ev} {S2 : Sto} {o : Out} (h : c ev S = some (true,S)) (hb : b ev S = some (.nx ev',S1)) (hw : whileF c b f ev' S1 = some (o,S2)) : whileF c b (f + 1) ev S = some (o,S2) := by
 unfold whileF
 rw [h]
 simp only [Option.bind_some,if_true,hb,hw]
theorem st_app_l {q : Nat} {v : E} (he : ev[q]? = some (some (.obj S.length))) (hv : v ev (S ++ [.lst us]) = some (x,S ++ [.lst us])) (hl : us.length < 16777216) : sAppend (eV q) v ev (S ++ [.lst us]) = some (.nx ev,S ++ [.lst (us ++ [x])]) := by
 have := st_append (q := q) (j := S.length) (S := S ++ [.lst us]) (us := us) he (by simp) hv hl
 simpa using this
theorem noCL_al (B : Bf T lt f vs) : ∀ {l : List D},Al T l → noCL l = true
 | [],_ => rfl
 | x :: l,h => by
   unfold noCL
   rw [noC_th (B.th x h.head),noCL_al B h.tail]; rfl
theorem noCS_app (B : Bf T lt f vs) (hn : noCS S = true) (ha : Al T acc) : noCS (S ++ [.lst acc]) = true := by
 unfold noCS at *
 rw [List.all_append,hn]
 show (true && (noCM (.lst acc) && true)) = true
 rw [show noCM (.lst acc) = noCL acc from rfl,noCL_al B ha]; rfl
noncomputable def wC : B := (bAnd (bE (e2 opLt (eV 4) (eA lenD (aC (eV 1) aN)))) (bE (eCallX ft lamt clot (eV 2) (aC (e2s opIx (eV 1) (eV 4)) (aC (eV 5) aN)))))
noncomputable def wD : C := (sSeq (sAppend (eV 3) (e2s opIx (eV 1) (eV 4))) (sSet 4 (e2 opAdd (eV 4) (eK (.int 1)))))
noncomputable def mB : C := (sSeq (sWhile 5000 wC wD) (sSeq (sAppend (eV 3) (eV 5)) (sIf (bAnd (bE (e2 opLt (eV 4) (eA lenD (aC (eV 1) aN)))) (bNot (bE (eCallX ft lamt clot (eV 2) (aC (eV 5) (aC (e2s opIx (eV 1) (eV 4)) aN)))))) (sSet 4 (e2 opAdd (eV 4) (eK (.int 1)))) sNil)))
def mE (S : Sto) (a0 : D) (bs : List D) (f : LT) (vs : List D) (p : Nat) (o : Option D) : Ev := [some a0,some (.lst bs),some (.clo f vs),some (.obj S.length),some (.int p),o]
theorem lt_len {p : Nat} {a0 : D} {o : Option D} {S' : Sto} : bE (e2 opLt (eV 4) (eA lenD (aC (eV 1) aN))) (mE S a0 bs f vs p o) S' = some (decide (p < bs.length),S') := by
 refine (b_of (e_2 (e_v rfl) (e_a (a_c (e_v rfl) a_n) rfl) (lt_w _ _))).trans ?_
 congr 2
 rw [decide_eq_decide]; omega
theorem ix_p {p : Nat} {a0 : D} {o : Option D} {S' : Sto} (hp : p < bs.length) : e2s opIx (eV 1) (eV 4) (mE S a0 bs f vs p o) S' = some (bs[p],S') := e_2s (e_v rfl) (e_v rfl) (atI_nat (List.getElem?_eq_getElem hp))
theorem whl_ok (B : Bf T lt f vs) (hn : noCS S = true) (a0 : D) {a : D} (ta : T a) (tb : Al T bs) : ∀ (k p : Nat) (acc : List D),bs.length - p < k → p ≤ bs.length → Al T acc → acc.length + (bs.length - p) < 16000000 →
   whileF wC wD k (mE S a0 bs f vs p (some a)) (S ++ [.lst acc]) = some (.nx (mE S a0 bs f vs (p + ((bs.drop p).takeWhile (lt · a)).length) (some a)),S ++ [.lst (acc ++ (bs.drop p).takeWhile (lt · a))]) ∧ p + ((bs.drop p).takeWhile (lt · a)).length ≤ bs.length ∧ bs.drop (p + ((bs.drop p).takeWhile (lt · a)).length) = (bs.drop p).dropWhile (lt · a)
 | 0,p,acc,h,_,_,_ => absurd h (Nat.not_lt_zero _)
 | k + 1,p,acc,h,hp,al,hl => by
   have nn := noCS_app B hn al
   by_cases q : p < bs.length
   · have tp := tb _ (List.getElem_mem q)
     have e0 : bs.drop p = bs[p] :: bs.drop (p + 1) := List.drop_eq_getElem_cons q
     have c1 : wC (mE S a0 bs f vs p (some a)) (S ++ [.lst acc]) = some (lt bs[p] a,S ++ [.lst acc]) := b_andT (lt_len.trans (by rw [decide_eq_true q])) (b_of (bef B nn rfl (ix_p q) (e_v rfl) tp ta))
     cases g : lt bs[p] a with
     | true =>
       rw [g] at c1
       obtain ⟨w1,w2,w3⟩ := whl_ok B hn a0 ta tb k (p + 1) (acc ++ [bs[p]]) (by omega) q (fun z hz => (List.mem_append.mp hz).elim (al z) fun e => by rw [List.mem_singleton.mp e]; exact tp) (by simp; omega)
       have e1 : (bs.drop p).takeWhile (lt · a) = bs[p] :: (bs.drop (p + 1)).takeWhile (lt · a) := by rw [e0,List.takeWhile_cons_of_pos (p := (lt · a)) g]
       have e2 : (bs.drop p).dropWhile (lt · a) = (bs.drop (p + 1)).dropWhile (lt · a) := by rw [e0,List.dropWhile_cons_of_pos (p := (lt · a)) g]
       rw [e1,e2,List.length_cons,show p + (((bs.drop (p + 1)).takeWhile (lt · a)).length + 1) = p + 1 + ((bs.drop (p + 1)).takeWhile (lt · a)).length by omega]
       rw [List.append_assoc,List.singleton_append] at w1
       refine ⟨whl_in c1 ?_ w1,w2,w3⟩
       exact st_seq (st_app_l rfl (ix_p q) (by omega)) (st_set (e_2 (e_v rfl) e_k (add1 p)))
     | false =>
       rw [g] at c1
       have e1 : (bs.drop p).takeWhile (lt · a) = [] := by rw [e0,List.takeWhile_cons_of_neg (p := (lt · a)) (by rw [g]; simp)]
       have e2 : (bs.drop p).dropWhile (lt · a) = bs.drop p := by rw [e0,List.dropWhile_cons_of_neg (p := (lt · a)) (by rw [g]; simp)]
       rw [e1,e2,List.append_nil]
       exact ⟨whl_out c1,hp,rfl⟩
   · have e0 : bs.drop p = [] := List.drop_eq_nil_iff.mpr (by omega)
     rw [e0]
     have c1 : wC (mE S a0 bs f vs p (some a)) (S ++ [.lst acc]) = some (false,S ++ [.lst acc]) := b_andF (lt_len.trans (by rw [decide_eq_false q]))
     show whileF wC wD (k + 1) (mE S a0 bs f vs (p) (some a)) (S ++ [.lst acc]) = some (.nx (mE S a0 bs f vs (p + 0) (some a)),S ++ [.lst (acc ++ [])]) ∧ p + 0 ≤ bs.length ∧ bs.drop (p + 0) = []
     rw [List.append_nil]
     exact ⟨whl_out c1,hp,e0⟩
theorem mrg_loop (B : Bf T lt f vs) (hn : noCS S = true) (a0 : D) (tb : Al T bs) : ∀ (as : List D),Al T as → ∀ (p : Nat) (acc : List D) (o : Option D),p ≤ bs.length → Al T acc → acc.length + as.length + (bs.length - p) < 1000000 → bs.length < 4000 →
   ∃ p' acc' o',loopF 5 mB as (mE S a0 bs f vs p o) (S ++ [.lst acc]) = some (.nx (mE S a0 bs f vs p' o'),S ++ [.lst acc']) ∧ p' ≤ bs.length ∧ acc' ++ bs.drop p' = acc ++ mrg lt as (bs.drop p) ∧ Al T acc' ∧ acc'.length + (bs.length - p') ≤ acc.length + as.length + (bs.length - p)
 | [],_,p,acc,o,hp,al,hl,hb => ⟨p,acc,o,rfl,hp,rfl,al,by simp⟩
 | a :: as,ta,p,acc,o,hp,al,hl,hb => by
   rw [List.length_cons] at hl
   obtain ⟨w1,w2,w3⟩ := whl_ok (S := S) B hn a0 ta.head tb 5000 p acc (by omega) hp al (by omega)
   have tw : Al T ((bs.drop p).takeWhile (lt · a)) := fun z hz => tb z (List.mem_of_mem_drop ((List.takeWhile_sublist _).subset hz))
   have lw : ((bs.drop p).takeWhile (lt · a)).length ≤ bs.length - p := by omega
   generalize e1 : (bs.drop p).takeWhile (lt · a) = tk at w1 w2 w3 tw lw
   have al2 : Al T (acc ++ tk ++ [a]) := fun z hz => by
     rcases List.mem_append.mp hz with q | q
     · exact (List.mem_append.mp q).elim (al z) (tw z)
     · rw [List.mem_singleton.mp q]; exact ta.head
   have nn := noCS_app B hn al2
   have s2 : sAppend (eV 3) (eV 5) (mE S a0 bs f vs (p + tk.length) (some a)) (S ++ [.lst (acc ++ tk)]) = some (.nx (mE S a0 bs f vs (p + tk.length) (some a)),S ++ [.lst (acc ++ tk ++ [a])]) := st_app_l rfl (e_v rfl) (by rw [List.length_append]; omega)
   have third : ∃ p2,p2 ≤ bs.length ∧ p + tk.length ≤ p2 ∧ bs.drop p2 = nxt lt a ((bs.drop p).dropWhile (lt · a)) ∧ sIf (bAnd (bE (e2 opLt (eV 4) (eA lenD (aC (eV 1) aN)))) (bNot (bE (eCallX ft lamt clot (eV 2) (aC (eV 5) (aC (e2s opIx (eV 1) (eV 4)) aN)))))) (sSet 4 (e2 opAdd (eV 4) (eK (.int 1)))) sNil (mE S a0 bs f vs (p + tk.length) (some a)) (S ++ [.lst (acc ++ tk ++ [a])]) = some (.nx (mE S a0 bs f vs p2 (some a)),S ++ [.lst (acc ++ tk ++ [a])]) := by
     rw [← w3]
     by_cases q : p + tk.length < bs.length
     · have e0 : bs.drop (p + tk.length) = bs[p + tk.length] :: bs.drop (p + tk.length + 1) := List.drop_eq_getElem_cons q
       have c1 := bef (ev := mE S a0 bs f vs (p + tk.length) (some a)) (e1 := eV 5) (e2 := e2s opIx (eV 1) (eV 4)) (q := 2) B nn rfl (e_v rfl) (ix_p q) ta.head (tb _ (List.getElem_mem q))
       rw [e0,nxt_cons]
       cases g : lt a bs[p + tk.length] with
       | true =>
         rw [g] at c1
         exact ⟨p + tk.length,w2,Nat.le_refl _,by rw [if_pos rfl,← e0],st_pass (b_andT (lt_len.trans (by rw [decide_eq_true q])) (b_nT (b_of c1)))⟩
       | false =>
         rw [g] at c1
         exact ⟨p + tk.length + 1,q,by omega,by rw [if_neg (by simp)],st_then (b_andT (lt_len.trans (by rw [decide_eq_true q])) (b_nF (b_of c1))) (st_set (e_2 (e_v rfl) e_k (add1 _)))⟩
     · have e0 : bs.drop (p + tk.length) = [] := List.drop_eq_nil_iff.mpr (by omega)
       rw [e0,nxt_nil]
       exact ⟨p + tk.length,w2,Nat.le_refl _,e0,st_pass (b_andF (lt_len.trans (by rw [decide_eq_false q])))⟩
   obtain ⟨p2,h1,h2,h3,c3⟩ := third
   obtain ⟨p',acc',o',lp,i1,i2,i3,i4⟩ := mrg_loop B hn a0 tb as ta.tail p2 (acc ++ tk ++ [a]) (some a) h1 al2 (by simp only [List.length_append,List.length_cons,List.length_nil]; omega) hb
   refine ⟨p',acc',o',loop_nx (st_seq w1 (st_seq s2 c3)) lp,i1,?_,i3,by simp only [List.length_append,List.length_cons,List.length_nil] at i4 ⊢; omega⟩
   rw [i2,h3]
   show acc ++ tk ++ [a] ++ _ = acc ++ ((bs.drop p).takeWhile (lt · a) ++ a :: mrg lt as (nxt lt a ((bs.drop p).dropWhile (lt · a))))
   rw [e1]; simp
theorem merged_ok (B : Bf T lt f vs) (hn : noCS S = true) (hS : SB S) (ta : Al T as) (tb : Al T bs) (la : as.length ≤ 2000) (lb : bs.length ≤ 2000) (tm : Al T (mrg lt as bs)) : g_merged [.lst as,.lst bs,.clo f vs] S = some (.lst (mrg lt as bs),S) := by
 obtain ⟨p',acc',o',lp,i1,i2,i3,i4⟩ := mrg_loop (S := S) B hn (.lst as) tb as ta 0 [] none (Nat.zero_le _) (fun z hz => by cases hz) (by simp; omega) (by omega)
 rw [List.drop_zero,List.nil_append] at i2
 refine frz_lst (J := [.lst acc']) hS (b_rt rfl (st_seq (st_set (e_newL a_n (Nat.zero_le _))) (st_seq (st_set e_k) (st_seq (st_forL (ds := as) (e_v rfl) lp) (st_ret (e_2s (e_v rfl) (e_sl (e_v rfl) (p_e (e_v rfl)) p_n (sl_from i1)) ?_)))))) (bndL_things fun x hx => B.th x (tm x hx))
 rw [← i2]
 have hz : sizeLine = 16777216 := sizeLine_eq
 have hl : acc'.length + (bs.drop p').length ≤ sizeLine := by rw [hz,List.length_drop]; simp at i4; omega
 simp only [opAddL,List.getElem?_append_right (Nat.le_refl _),Nat.sub_self,List.getElem?_cons_zero,if_pos hl]
theorem comp_flt {cn : B} {fr : Ev} {p : D → Bool} : ∀ (ds : List D),(∀ x ∈ ds,cn (some x :: fr) S = some (p x,S)) → compF cn (eV 0) fr ds S = some (ds.filter p,S)
 | [],_ => rfl
 | x :: ds,hc => by
   have ih := comp_flt ds fun y hy => hc y (List.mem_cons_of_mem _ hy)
   unfold compF
   rw [hc x (List.mem_cons_self ..)]
   simp only [Option.bind_some]
   cases g : p x with
   | true =>
     rw [if_pos rfl,List.filter_cons_of_pos g]
     show ((eV 0 (some x :: fr) S).bind fun q => (compF cn (eV 0) fr ds q.2).bind fun r => some (q.1 :: r.1,r.2)) = _
     rw [show eV 0 (some x :: fr) S = some (x,S) from rfl]
     simp only [Option.bind_some,ih]
   | false =>
     rw [if_neg (by simp),List.filter_cons_of_neg (by rw [g]; simp)]
     exact ih
theorem compLf {fr : List Nat} {e : E} {cn : B} {p : D → Bool} (he : e ev S = some (.lst ts,S)) (hc : ∀ x ∈ ts,cn (some x :: fr.map (evAt ev)) S = some (p x,S)) : eCompL fr e cn (eV 0) ev S = some (.lst (ts.filter p),S) := by
 unfold eCompL
 rw [he]
 simp only [Option.bind_some,comp_flt ts hc,Option.map_some]
theorem al_f {p : D → Bool} (h : Al T ts) : Al T (ts.filter p) := fun x hx => h x (List.mem_filter.mp hx).1
theorem sr_f {p : D → Bool} (h : Srt lt ts) : Srt lt (ts.filter p) := List.Pairwise.filter _ h
theorem common_ok (B : Bf T lt f vs) (k : Rk R) (s1 : Ste T lt d1 as h1) (s2 : Ste T lt d2 bs h2) (l1 : as.length ≤ 2000) (l2 : bs.length ≤ 2000) : ∃ d h n',g_common [.obj 1,d1,d2,.clo f vs] (Z n R) = some (d,Z n' R) ∧ Ste T lt d (as.filter (hs lt bs)) h := by
 obtain ⟨d,h,n',c,s⟩ := mkof_ok (n := n) (R := R) B (al_f (p := hs lt bs) s1.al) (sr_f s1.sr) (Nat.le_trans (List.length_filter_le ..) l1)
 exact ⟨d,h,n',b_rt rfl (st_ret (e_call (a_c (e_v rfl) (a_c (compLf (e_call (a_c (e_v rfl) a_n) (things_of_ok s1.mm l1 k.sb)) fun x hx => b_of (e_call (a_c (e_v rfl) (a_c (e_v rfl) (a_c (e_v rfl) a_n))) (has_ok B k.noCS (s1.al x hx) s2 l2))) a_n)) c)),s⟩
theorem less_ok (B : Bf T lt f vs) (k : Rk R) (s1 : Ste T lt d1 as h1) (s2 : Ste T lt d2 bs h2) (l1 : as.length ≤ 2000) (l2 : bs.length ≤ 2000) : ∃ d h n',g_less [.obj 1,d1,d2,.clo f vs] (Z n R) = some (d,Z n' R) ∧ Ste T lt d (as.filter fun x => !hs lt bs x) h := by
 obtain ⟨d,h,n',c,s⟩ := mkof_ok (n := n) (R := R) B (al_f (p := fun x => !hs lt bs x) s1.al) (sr_f s1.sr) (Nat.le_trans (List.length_filter_le ..) l1)
 exact ⟨d,h,n',b_rt rfl (st_ret (e_call (a_c (e_v rfl) (a_c (compLf (e_call (a_c (e_v rfl) a_n) (things_of_ok s1.mm l1 k.sb)) fun x hx => b_not (b_of (e_call (a_c (e_v rfl) (a_c (e_v rfl) (a_c (e_v rfl) a_n))) (has_ok B k.noCS (s1.al x hx) s2 l2)))) a_n)) c)),s⟩
theorem either_ok (B : Bf T lt f vs) (k : Rk R) (s1 : Ste T lt d1 as h1) (s2 : Ste T lt d2 bs h2) (l : as.length + bs.length ≤ 2000) : ∃ d h n',g_either [.obj 1,d1,d2,.clo f vs] (Z n R) = some (d,Z n' R) ∧ Ste T lt d (mrg lt as bs) h := by
 have tm := mrg_al B.sw s1.al s2.al s1.sr s2.sr
 obtain ⟨sm,_,lm⟩ := mrg_ok B.sw s1.al s2.al s1.sr s2.sr
 have ll : (mrg lt as bs).length ≤ 2000 := by
   rw [lm]; have := List.length_filter_le (fun x => !hs lt as x) bs; omega
 obtain ⟨d,h,n',c,s⟩ := mkof_ok (n := n) (R := R) B tm sm ll
 exact ⟨d,h,n',b_rt rfl (st_ret (e_call (a_c (e_v rfl) (a_c (e_call (a_c (e_call (a_c (e_v rfl) a_n) (things_of_ok s1.mm (by omega) k.sb)) (a_c (e_call (a_c (e_v rfl) a_n) (things_of_ok s2.mm (by omega) k.sb)) (a_c (e_v rfl) a_n))) (merged_ok B k.noCS k.sb s1.al s2.al (by omega) (by omega) tm)) a_n)) c)),s⟩
end Pg
set_option maxHeartbeats 4000000
namespace Pg
open PySem L2 F Mt
variable {d d0 d1 d2 l r t x y : D} {ts us as bs acc rt : List D} {h i j g rh h1 h2 : Nat} {n : Int} {S S0 S1 R : Sto} {ev : Ev} {T : D → Prop} {lt : D → D → Bool} {f : LT} {vs : List D}
noncomputable def rB : C := (sIf (bNot (bE (eCallX ft lamt clot (eV 1) (aC (e2s opIx (eV 3) (e2 opSub (eV 4) (eK (.int 1)))) (aC (e2s opIx (eV 3) (eV 4)) aN))))) (sRet (eK (.bl false))) sNil)
noncomputable def qB : C := (sSeq (sSet 3 (eCall g_things_of (aC (eV 2) aN))) (sSeq (sIf (bNot (bE (eCall (dflt 1 (g_is_right 40)) (aC (eV 2) aN)))) (sRet (eK (.bl false))) sNil) (sForR2 4 (eK (.int 1)) (eA lenD (aC (eV 3) aN)) rB)))
theorem in_order (B : Bf T lt f vs) (hn : noCS S = true) (a0 a2 : D) (al : Al T ts) (sr : Srt lt ts) : ∀ (m : Nat) (lo : Nat) (o : Option D),1 ≤ lo → (0 < m → lo + m ≤ ts.length) → ∃ o',loopF 4 rB (rangeD (lo : Int) m) [some a0,some (.clo f vs),some a2,some (.lst ts),o] S = some (.nx [some a0,some (.clo f vs),some a2,some (.lst ts),o'],S)
 | 0,lo,o,_,_ => ⟨o,rfl⟩
 | m + 1,lo,o,h0,hm => by
   obtain ⟨o',ih⟩ := in_order B hn a0 a2 al sr m (lo + 1) (some (.int lo)) (by omega) (fun _ => by have := hm (Nat.succ_pos _); omega)
   refine ⟨o',?_⟩
   rw [range_cons]
   have hm' := hm (Nat.succ_pos _)
   have e1 : lo - 1 < ts.length := by omega
   have e2' : lo < ts.length := by omega
   have hlt : lt ts[lo - 1] ts[lo] = true := List.pairwise_iff_getElem.mp sr (lo - 1) lo e1 e2' (by omega)
   have c := bef (ev := [some a0,some (.clo f vs),some a2,some (.lst ts),some (.int lo)]) (S := S) (e1 := e2s opIx (eV 3) (e2 opSub (eV 4) (eK (.int 1)))) (e2 := e2s opIx (eV 3) (eV 4)) (q := 1) (x := ts[lo - 1]) (y := ts[lo]) B hn rfl (e_2s (e_v rfl) (e_2 (e_v rfl) e_k (sub_int _ _)) ((congrArg (fun z => opIx S (.lst ts) (.int z)) (show (lo : Int) - 1 = ((lo - 1 : Nat) : Int) by omega)).trans (atI_nat (List.getElem?_eq_getElem e1)))) (e_2s (e_v rfl) (e_v rfl) (atI_nat (List.getElem?_eq_getElem e2'))) (al _ (List.getElem_mem e1)) (al _ (List.getElem_mem e2'))
   rw [hlt] at c
   rw [show ((lo : Int) + 1) = ((lo + 1 : Nat) : Int) from rfl]
   exact loop_nx (st_pass (b_nT (b_of c))) ih
theorem st_forR2 {i : Nat} {f g : E} {b : C} {a c : Int} {o : Out} {S2 S3 : Sto} (h : f ev S = some (.int a,S1)) (h' : g ev S1 = some (.int c,S2)) (ha : 0 ≤ a ∧ a < 1000000) (hc : 0 ≤ c ∧ c < 1000000) (q : loopF i b (rangeD a (c - a).toNat) ev S2 = some (o,S3)) : sForR2 i f g b ev S = some (o,S3) := by
 simp only [sForR2,h,h',Option.bind_some]
 rw [if_pos (by omega)]
 exact q
def Sets (T : D → Prop) (lt : D → D → Bool) (ds : List D) : Prop := ∀ d ∈ ds,∃ ts h,Ste T lt d ts h ∧ ts.length ≤ 2000
theorem q_ok (B : Bf T lt f vs) (hn : noCS S = true) (hS : SB S) (a0 : D) (s : Ste T lt d ts h) (hl : ts.length ≤ 2000) (o3 o4 : Option D) : ∃ o4',qB [some a0,some (.clo f vs),some d,o3,o4] S = some (.nx [some a0,some (.clo f vs),some d,some (.lst ts),o4'],S) := by
 have ir : dflt 1 (g_is_right 40) [d] S = some (.bl true,S) := is_right_ok (k := 0) s.mm (n := 40) (by have := h15 s.mm hl; omega) hl S
 obtain ⟨o4',lp⟩ := in_order B hn a0 d s.al s.sr (ts.length - 1) 1 o4 (by decide) (fun _ => by omega)
 exact ⟨o4',st_seq (st_set (e_call (a_c (e_v rfl) a_n) (things_of_ok s.mm hl hS))) (st_seq (st_pass (b_nT (b_of (e_call (a_c (e_v rfl) a_n) ir)))) (st_forR2 e_k (e_a (a_c (e_v rfl) a_n) rfl) (by decide) (by omega) (by rw [show ((ts.length : Int) - 1).toNat = ts.length - 1 by omega]; exact lp)))⟩
theorem r_loop (B : Bf T lt f vs) (hn : noCS S = true) (hS : SB S) (a0 : D) : ∀ (ds : List D),Sets T lt ds → ∀ (o2 o3 o4 : Option D),∃ o2' o3' o4',loopF 2 qB ds [some a0,some (.clo f vs),o2,o3,o4] S = some (.nx [some a0,some (.clo f vs),o2',o3',o4'],S)
 | [],_,o2,o3,o4 => ⟨o2,o3,o4,rfl⟩
 | d :: ds,hd,o2,o3,o4 => by
   obtain ⟨ts,h,s,hl⟩ := hd d (List.mem_cons_self ..)
   obtain ⟨o4',c⟩ := q_ok B hn hS a0 s hl o3 o4
   obtain ⟨p2,p3,p4,ih⟩ := r_loop B hn hS a0 ds (fun z hz => hd z (List.mem_cons_of_mem _ hz)) (some d) (some (.lst ts)) o4'
   exact ⟨p2,p3,p4,loop_nx c ih⟩
theorem r_loopO {a : Nat} {ds : List D} (B : Bf T lt f vs) (hn : noCS S = true) (hS : SB S) (a0 : D) (ha : S[a]? = some (.lst ds)) (hd : Sets T lt ds) : ∀ (k j : Nat),ds.length - j < k → ∀ (o2 o3 o4 : Option D),∃ o2' o3' o4',loopO a 2 qB k j [some a0,some (.clo f vs),o2,o3,o4] S = some (.nx [some a0,some (.clo f vs),o2',o3',o4'],S)
 | 0,j,hk,_,_,_ => absurd hk (Nat.not_lt_zero _)
 | k + 1,j,hk,o2,o3,o4 => by
   by_cases hj : j < ds.length
   · obtain ⟨ts,h,s,hl⟩ := hd ds[j] (List.getElem_mem hj)
     obtain ⟨o4',c⟩ := q_ok B hn hS a0 s hl o3 o4
     obtain ⟨p2,p3,p4,ih⟩ := r_loopO B hn hS a0 ha hd k (j + 1) (by omega) (some ds[j]) (some (.lst ts)) o4'
     refine ⟨p2,p3,p4,?_⟩
     unfold loopO
     simp only [ha,List.getElem?_eq_getElem hj]
     show (qB [some a0,some (.clo f vs),some ds[j],o3,o4] S).bind _ = _
     rw [c]
     exact ih
   · refine ⟨o2,o3,o4,?_⟩
     unfold loopO
     simp only [ha,List.getElem?_eq_none (Nat.not_lt.mp hj)]
theorem right_l {ds : List D} (B : Bf T lt f vs) (hn : noCS S = true) (hS : SB S) (hd : Sets T lt ds) : g__law_right [.lst ds,.clo f vs] S = some (.bl true,S) := by
 obtain ⟨p2,p3,p4,lp⟩ := r_loop B hn hS (.lst ds) ds hd none none none
 refine b_rt rfl (st_seq (e := [some (.lst ds),some (.clo f vs),p2,p3,p4]) (S1 := S) ?_ (st_ret e_k))
 show sAlt (isLst (eV 0)) (sForL 2 (eV 0) qB) (sForO 2 (eV 0) qB) _ S = _
 exact (if_pos (show isLst (eV 0) [some (.lst ds),some (.clo f vs),none,none,none] S = true from rfl)).trans (st_forL (ds := ds) (e_v rfl) lp)
theorem right_o {ds : List D} {a : Nat} (B : Bf T lt f vs) (hn : noCS S = true) (hS : SB S) (ha : S[a]? = some (.lst ds)) (hd : Sets T lt ds) : g__law_right [.obj a,.clo f vs] S = some (.bl true,S) := by
 obtain ⟨p2,p3,p4,lp⟩ := r_loopO B hn hS (.obj a) ha hd (ds.length + 1) 0 (by omega) none none none
 refine b_rt rfl (st_seq (e := [some (.obj a),some (.clo f vs),p2,p3,p4]) (S1 := S) ?_ (st_ret e_k))
 show sAlt (isLst (eV 0)) (sForL 2 (eV 0) qB) (sForO 2 (eV 0) qB) _ S = _
 refine (if_neg (show ¬ (isLst (eV 0) [some (.obj a),some (.clo f vs),none,none,none] S = true) by simp [isLst,eV])).trans ?_
 show sForO 2 (eV 0) qB [some (.obj a),some (.clo f vs),none,none,none] S = _
 simp only [sForO,e_v (i := 0) (d := .obj a) (ev := [some (.obj a),some (.clo f vs),none,none,none]) rfl,Option.bind_some,ha]
 exact lp
noncomputable def pB : C := (sSeq (sSet 9 (eCall g_at (aC (eV 7) (aC (eV 8) aN)))) (sIf (bOr (bE (e2 opNe (eCall g_place_of (aC (eV 7) (aC (eV 9) (aC (eV 3) aN)))) (eV 8))) (bE (e2 opIsNot (eCall g_has (aC (eV 4) (aC (eV 9) (aC (eV 3) aN)))) (eK (.bl true))))) (sRet (eK (.bl false))) sNil))
theorem places {w : D} {wt : List D} {hw : Nat} (B : Bf T lt f vs) (hn : noCS S = true) (a0 a1 a2 a5 a6 : D) (sw : Ste T lt w wt hw) (lw : wt.length ≤ 2000) (s : Ste T lt d ts h) (hl : ts.length ≤ 2000) (hh : ∀ x ∈ ts,hs lt wt x = true) : ∀ (m lo : Nat) (o8 o9 : Option D),lo + m = ts.length → ∃ o8' o9',loopF 8 pB (rangeD (lo : Int) m) [some a0,some a1,some a2,some (.clo f vs),some w,some a5,some a6,some d,o8,o9] S = some (.nx [some a0,some a1,some a2,some (.clo f vs),some w,some a5,some a6,some d,o8',o9'],S)
 | 0,lo,o8,o9,_ => ⟨o8,o9,rfl⟩
 | m + 1,lo,o8,o9,hm => by
   have hp : lo < ts.length := by omega
   obtain ⟨p8,p9,ih⟩ := places B hn a0 a1 a2 a5 a6 sw lw s hl hh m (lo + 1) (some (.int lo)) (some ts[lo]) (by omega)
   have hx := List.getElem?_eq_getElem hp
   have tx := s.al _ (List.getElem_mem hp)
   have c1 := place_ok' (S := S) B hn tx s hl
   rw [cb_at B.sw s.al s.sr hx] at c1
   have c2 := has_ok (S := S) B hn tx sw lw
   rw [hh _ (List.getElem_mem hp)] at c2
   refine ⟨p8,p9,?_⟩
   rw [range_cons]
   rw [show ((lo : Int) + 1) = ((lo + 1 : Nat) : Int) from rfl]
   exact loop_nx (st_seq (st_set (e_call (a_c (e_v rfl) (a_c (e_v rfl) a_n)) (at_ok s.mm hl hx S))) (st_pass (b_orF (b_of (e_2 (e_call (a_c (e_v rfl) (a_c (e_v rfl) (a_c (e_v rfl) a_n))) c1) (e_v rfl) (ne_pl rfl))) (b_of (e_2 (e_call (a_c (e_v rfl) (a_c (e_v rfl) (a_c (e_v rfl) a_n))) c2) e_k rfl))))) ih
theorem two_ok (B : Bf T lt f vs) (k : Rk R) (s1 : Ste T lt d1 as h1) (s2 : Ste T lt d2 bs h2) (l : as.length + bs.length ≤ 1000) : ∃ n',g__law_two [.obj 1,d1,d2,.clo f vs] (Z n R) = some (.bl true,Z n' R) := by
 have w := B.sw
 obtain ⟨wd',hw,n1,cw,sw⟩ := either_ok (n := n) B k s1 s2 (by omega)
 obtain ⟨sd,hsd,n2,cs,ss⟩ := common_ok (n := n1) B k s1 s2 (by omega) (by omega)
 obtain ⟨rd,hr,n3,cr,sr⟩ := less_ok (n := n2) B k s1 s2 (by omega) (by omega)
 have lw : (mrg lt as bs).length ≤ 1000 := by have := size_sum w s1.al s2.al s1.sr s2.sr; omega
 have ls : (as.filter (hs lt bs)).length ≤ as.length := List.length_filter_le ..
 have lr : (as.filter fun x => !hs lt bs x).length ≤ as.length := List.length_filter_le ..
 have c4 := right_l (S := Z n3 R) (ds := [wd',sd,rd]) B k.noCS k.sb (fun z hz => by
   rcases List.mem_cons.mp hz with rfl | hz
   · exact ⟨_,_,sw,by omega⟩
   rcases List.mem_cons.mp hz with rfl | hz
   · exact ⟨_,_,ss,by omega⟩
   rw [List.mem_singleton.mp hz]; exact ⟨_,_,sr,by omega⟩)
 obtain ⟨ed,he,n4,ce,se⟩ := common_ok (n := n3) B k sr s2 (by omega) (by omega)
 have e0 : (as.filter fun x => !hs lt bs x).filter (hs lt bs) = [] := List.filter_eq_nil_iff.mpr fun x hx => by
   have := (List.mem_filter.mp hx).2
   intro z; rw [z] at this; cases this
 rw [e0] at se
 obtain ⟨rfl,_⟩ := mk_nil se.mm
 obtain ⟨bd,hb,n5,cb',sb⟩ := either_ok (n := n4) B k sr ss (by omega)
 rw [mrg_parts w (hs lt bs) s1.al s1.sr] at sb
 have hA : ∀ x ∈ as,hs lt (mrg lt as bs) x = true := fun x hx => by rw [hs_mrg w s1.al s2.al s1.sr s2.sr (s1.al x hx),hs_self w s1.al hx]; rfl
 have hB : ∀ x ∈ bs,hs lt (mrg lt as bs) x = true := fun x hx => by rw [hs_mrg w s1.al s2.al s1.sr s2.sr (s2.al x hx),hs_self w s2.al hx,Bool.or_true]
 obtain ⟨p8,p9,lp1⟩ := places (S := Z n5 R) B k.noCS (.obj 1) d1 d2 sd rd sw (by omega) s1 (by omega) hA as.length 0 none none (by omega)
 obtain ⟨q8,q9,lp2⟩ := places (S := Z n5 R) B k.noCS (.obj 1) d1 d2 sd rd sw (by omega) s2 (by omega) hB bs.length 0 p8 p9 (by omega)
 obtain ⟨zd,hz,n6,cz,sz⟩ := less_ok (n := n5) B k s1 s1 (by omega) (by omega)
 have e1 : (as.filter fun x => !hs lt as x) = [] := List.filter_eq_nil_iff.mpr fun x hx => by rw [hs_self w s1.al hx]; simp
 rw [e1] at sz
 obtain ⟨rfl,_⟩ := mk_nil sz.mm
 have sm := size_sum w s1.al s2.al s1.sr s2.sr
 have hsz : opNe (.int ((mrg lt as bs).length + (as.filter (hs lt bs)).length : Int)) (.int ((as.length : Int) + bs.length)) = some (.bl false) := by
   rw [show ((mrg lt as bs).length + (as.filter (hs lt bs)).length : Int) = (as.length : Int) + bs.length by omega]; exact ne_pl rfl
 have inner : ∀ {dd : D} {tt : List D} {hh : Nat} {o8 o9 o8' o9' : Option D},Ste T lt dd tt hh → loopF 8 pB (rangeD ((0 : Nat) : Int) tt.length) [some (.obj 1),some d1,some d2,some (.clo f vs),some wd',some sd,some rd,some dd,o8,o9] (Z n5 R) = some (.nx [some (.obj 1),some d1,some d2,some (.clo f vs),some wd',some sd,some rd,some dd,o8',o9'],Z n5 R) → tt.length ≤ 1000 → sForR 8 (eCall g_size (aC (eV 7) aN)) pB [some (.obj 1),some d1,some d2,some (.clo f vs),some wd',some sd,some rd,some dd,o8,o9] (Z n5 R) = some (.nx [some (.obj 1),some d1,some d2,some (.clo f vs),some wd',some sd,some rd,some dd,o8',o9'],Z n5 R) := fun s lp hl =>
   st_forR (n := _) (e_call (a_c (e_v rfl) a_n) (size_ok s.mm _)) (by omega) (by omega) (by rw [Int.toNat_natCast]; exact lp)
 exact ⟨n6,b_rt rfl (st_seq (st_set (e_call (a_c (e_v rfl) (a_c (e_v rfl) (a_c (e_v rfl) (a_c (e_v rfl) a_n)))) cw)) (st_seq (st_set (e_call (a_c (e_v rfl) (a_c (e_v rfl) (a_c (e_v rfl) (a_c (e_v rfl) a_n)))) cs)) (st_seq (st_set (e_call (a_c (e_v rfl) (a_c (e_v rfl) (a_c (e_v rfl) (a_c (e_v rfl) a_n)))) cr)) (st_seq (st_pass (b_nT (b_of (e_call (a_c (e_lst (a_c (e_v rfl) (a_c (e_v rfl) (a_c (e_v rfl) a_n))) (Nat.le_of_ble_eq_true rfl)) (a_c (e_v rfl) a_n)) c4)))) (st_seq (st_pass (b_orF (b_of (e_2 (e_2 (e_call (a_c (e_v rfl) a_n) (size_ok sw.mm _)) (e_call (a_c (e_v rfl) a_n) (size_ok ss.mm _)) (add_int _ _)) (e_2 (e_call (a_c (e_v rfl) a_n) (size_ok s1.mm _)) (e_call (a_c (e_v rfl) a_n) (size_ok s2.mm _)) (add_int _ _)) hsz)) (b_of (e_2 (e_call (a_c (e_v rfl) (a_c (e_v rfl) (a_c (e_v rfl) (a_c (e_v rfl) a_n)))) ce) e_k rfl)))) (st_seq (st_pass (b_of (e_2 (e_call (a_c (e_call (a_c (e_v rfl) (a_c (e_v rfl) (a_c (e_v rfl) (a_c (e_v rfl) a_n)))) cb') a_n) (things_of_ok sb.mm (by omega) k.sb)) (e_call (a_c (e_v rfl) a_n) (things_of_ok s1.mm (by omega) k.sb)) (ne_pl (pl_mono (by decide) (pl_lst s1.mm.things)))))) (st_seq (st_forL (ds := [d1,d2]) (e_lst (a_c (e_v rfl) (a_c (e_v rfl) a_n)) (Nat.le_of_ble_eq_true rfl)) (loop_nx (inner s1 lp1 (by omega)) (loop_nx (inner s2 lp2 (by omega)) rfl))) (st_ret (e_2 (e_call (a_c (e_v rfl) (a_c (e_v rfl) (a_c (e_v rfl) (a_c (e_v rfl) a_n)))) cz) e_k rfl)))))))))⟩
end Pg
set_option maxHeartbeats 4000000
namespace Pg
open PySem L2 F Mt
variable {x y : D} {S : Sto}
structure Lo {α : Type} (r : α → α → Prop) : Prop where
 irr : ∀ a,¬ r a a
 tr : ∀ a b c,r a b → r b c → r a c
 tot : ∀ a b,r a b ∨ a = b ∨ r b a
theorem lo_int : Lo (fun a b : Int => a < b) := ⟨fun a => Int.lt_irrefl a,fun a b c => Int.lt_trans,fun a b => by omega⟩
theorem lo_list : Lo (fun a b : List Nat => a < b) := by
 have irr : ∀ a : List Nat,¬ a < a := fun a => by
   induction a with
   | nil => exact List.not_lt_nil _
   | cons x a ih => rw [List.cons_lt_cons_iff]; rintro (h | ⟨_,h⟩); · omega
                    · exact ih h
 have tr : ∀ a b c : List Nat,a < b → b < c → a < c := fun a => by
   induction a with
   | nil =>
     intro b c h1 h2
     cases c with
     | nil => exact absurd h2 (List.not_lt_nil _)
     | cons z c => exact List.nil_lt_cons ..
   | cons x a ih =>
     intro b c h1 h2
     cases b with
     | nil => exact absurd h1 (List.not_lt_nil _)
     | cons y b =>
       cases c with
       | nil => exact absurd h2 (List.not_lt_nil _)
       | cons z c =>
         rw [List.cons_lt_cons_iff] at h1 h2 ⊢
         rcases h1 with h1 | ⟨rfl,h1⟩
         · rcases h2 with h2 | ⟨rfl,h2⟩
           · exact .inl (by omega)
           · exact .inl h1
         · rcases h2 with h2 | ⟨rfl,h2⟩
           · exact .inl h2
           · exact .inr ⟨rfl,ih b c h1 h2⟩
 have tot : ∀ a b : List Nat,a < b ∨ a = b ∨ b < a := fun a => by
   induction a with
   | nil =>
     intro b
     cases b with
     | nil => exact .inr (.inl rfl)
     | cons y b => exact .inl (List.nil_lt_cons ..)
   | cons x a ih =>
     intro b
     cases b with
     | nil => exact .inr (.inr (List.nil_lt_cons ..))
     | cons y b =>
       rw [List.cons_lt_cons_iff,List.cons_lt_cons_iff]
       rcases Nat.lt_trichotomy x y with h | rfl | h
       · exact .inl (.inl h)
       · rcases ih b with h | rfl | h
         · exact .inl (.inr ⟨rfl,h⟩)
         · exact .inr (.inl rfl)
         · exact .inr (.inr (.inr ⟨rfl,h⟩))
       · exact .inr (.inr (.inl h))
 exact ⟨irr,tr,tot⟩
theorem lo_pair {α β : Type} {r : α → α → Prop} {s : β → β → Prop} (h : Lo r) (g : Lo s) : Lo (fun a b : α × β => r a.1 b.1 ∨ a.1 = b.1 ∧ s a.2 b.2) := by
 refine ⟨fun a => ?_,fun a b c => ?_,fun a b => ?_⟩
 · rintro (q | ⟨_,q⟩)
   · exact h.irr _ q
   · exact g.irr _ q
 · rintro (p | ⟨p,p'⟩) (q | ⟨q,q'⟩)
   · exact .inl (h.tr _ _ _ p q)
   · exact .inl (q ▸ p)
   · exact .inl (p ▸ q)
   · exact .inr ⟨p.trans q,g.tr _ _ _ p' q'⟩
 · obtain ⟨a1,a2⟩ := a
   obtain ⟨b1,b2⟩ := b
   rcases h.tot a1 b1 with p | p | p
   · exact .inl (.inl p)
   · subst p
     rcases g.tot a2 b2 with q | q | q
     · exact .inl (.inr ⟨rfl,q⟩)
     · subst q; exact .inr (.inl rfl)
     · exact .inr (.inr (.inr ⟨rfl,q⟩))
   · exact .inr (.inr (.inl p))
structure Ky (T : D → Prop) (ky : D → D) (lt : D → D → Bool) : Prop where
 sw : Sw T lt
 anti : ∀ x y,T x → T y → alk lt x y → ky x = ky y
 op : ∀ x y,T x → T y → opLtK (ky x) (ky y) = some (.bl (lt x y))
 pl : ∀ x,T x → pl 2 (ky x) = true
 no : ∀ x,T x → noC (ky x) = true
open Classical in
theorem ky_of {α : Type} {r : α → α → Prop} (h : Lo r) {T : D → Prop} {ky : D → D} (c : D → α) (op : ∀ x y,T x → T y → opLtK (ky x) (ky y) = some (.bl (decide (r (c x) (c y))))) (inj : ∀ x y,T x → T y → c x = c y → ky x = ky y) (hp : ∀ x,T x → pl 2 (ky x) = true) (hc : ∀ x,T x → noC (ky x) = true) : Ky T ky (fun x y => decide (r (c x) (c y))) := by
 refine ⟨⟨fun x _ => decide_eq_false (h.irr _),fun x y z _ _ _ p q => decide_eq_true (h.tr _ _ _ (of_decide_eq_true p) (of_decide_eq_true q)),fun x y z _ _ _ p => ?_⟩,fun x y tx ty a => ?_,op,hp,hc⟩
 · have p := of_decide_eq_true p
   rcases h.tot (c x) (c y) with q | q | q
   · exact .inl (decide_eq_true q)
   · exact .inr (decide_eq_true (q ▸ p))
   · exact .inr (decide_eq_true (h.tr _ _ _ q p))
 · rcases h.tot (c x) (c y) with q | q | q
   · exact absurd q (of_decide_eq_false a.1)
   · exact inj x y tx ty q
   · exact absurd q (of_decide_eq_false a.2)
def Ti (x : D) : Prop := ∃ i,x = .int i
def Tw (x : D) : Prop := ∃ z,x = .str z ∧ z.length ≤ 8
def iv : D → Int
 | .int i => i
 | _ => 0
def sv : D → Str
 | .str z => z
 | _ => ⟨#[]⟩
theorem str_inj {a b : Str} (h : a.cps.toList = b.cps.toList) : a = b := by
 obtain ⟨a⟩ := a; obtain ⟨b⟩ := b
 exact congrArg Str.mk (Array.toList_inj.mp h)
theorem ltI (a b : Int) {p : Prop} {_ : Decidable p} (h : p ↔ a < b) : opLtK (.int a) (.int b) = some (.bl (decide p)) := by
 show some (D.bl (decide (a < b))) = _
 rw [decide_eq_decide.mpr h]
theorem ltS (a b : Str) {p : Prop} {_ : Decidable p} (h : p ↔ a.cps.toList < b.cps.toList) : opLtK (.str a) (.str b) = some (.bl (decide p)) := by
 show some (D.bl (decide (a.cps.toList < b.cps.toList))) = _
 rw [decide_eq_decide.mpr h]
theorem ltP (a b c d : Int) {p : Prop} {_ : Decidable p} (hh : p ↔ (a < c ∨ a = c ∧ b < d)) : opLtK (.tup [.int a,.int b]) (.tup [.int c,.int d]) = some (.bl (decide p)) := by
 rw [decide_eq_decide.mpr hh]
 show (lexK [.int a,.int b] [.int c,.int d]).map D.bl = _
 simp only [lexK]
 by_cases h : a = c
 · subst h
   by_cases g : b = d
   · subst g
     rw [decide_eq_false (show ¬ (a < a ∨ a = a ∧ b < b) by omega)]; simp
   · simp [g]
 · simp [h]
theorem ltQ (a c : Int) (b d : Str) {p : Prop} {_ : Decidable p} (hh : p ↔ (a < c ∨ a = c ∧ b.cps.toList < d.cps.toList)) : opLtK (.tup [.int a,.str b]) (.tup [.int c,.str d]) = some (.bl (decide p)) := by
 rw [decide_eq_decide.mpr hh]
 show (lexK [.int a,.str b] [.int c,.str d]).map D.bl = _
 simp only [lexK]
 by_cases h : a = c
 · subst h
   by_cases g : b = d
   · subst g
     rw [decide_eq_false (show ¬ (a < a ∨ a = a ∧ b.cps.toList < b.cps.toList) from fun q => q.elim (fun z => by omega) fun z => lo_list.irr _ z.2)]; simp
   · simp [g]
 · simp [h]
theorem sl_len (z : Str) (lo hi : Option Int) : (strSl z lo hi).length ≤ z.length := by
 unfold strSl
 split
 · exact Nat.le_refl _
 · have h1 := PyProof.Rows.indices_len_le lo hi z.length
   refine Nat.le_trans ?_ h1
   show (List.filterMap _ _).toArray.size ≤ _
   rw [List.size_toArray]
   exact List.length_filterMap_le _ _
def kyOf (κ : Int) (x : D) : D := if κ = 1 then .int (0 - iv x) else if κ = 2 then .tup [.int (iv x % 7),x] else if κ = 3 then .int (iv x / 3) else if κ = 4 then .int (if iv x < 0 then - iv x else iv x) else if κ = 6 then .tup [.int (sv x).length,x] else if κ = 7 then .str (strSl (sv x) none (some 1)) else x
def TkOf (κ : Int) : D → Prop := if κ < 5 then Ti else Tw
theorem key_ok {κ : Int} (h0 : 0 ≤ κ) (h1 : κ < 8) (tx : TkOf κ x) : g__law_key [.int κ,x] S = some (kyOf κ x,S) := by
 have hz : sizeLine = 16777216 := sizeLine_eq
 have : κ = 0 ∨ κ = 1 ∨ κ = 2 ∨ κ = 3 ∨ κ = 4 ∨ κ = 5 ∨ κ = 6 ∨ κ = 7 := by omega
 rcases this with rfl | rfl | rfl | rfl | rfl | rfl | rfl | rfl
 · exact b_rt rfl (st_seq (st_pass (b_of (e_2 (e_v rfl) e_k rfl))) (st_seq (st_pass (b_of (e_2 (e_v rfl) e_k rfl))) (st_seq (st_pass (b_of (e_2 (e_v rfl) e_k rfl))) (st_seq (st_pass (b_of (e_2 (e_v rfl) e_k rfl))) (st_seq (st_pass (b_of (e_2 (e_v rfl) e_k rfl))) (st_seq (st_pass (b_of (e_2 (e_v rfl) e_k rfl))) (st_ret (e_v rfl))))))))
 · obtain ⟨i,rfl⟩ := (show Ti x from tx)
   exact b_rt rfl (st_seqR (st_then (b_of (e_2 (e_v rfl) e_k rfl)) (st_ret (e_2 e_k (e_v rfl) (sub_int _ _)))))
 · obtain ⟨i,rfl⟩ := (show Ti x from tx)
   exact b_rt rfl (st_seq (st_pass (b_of (e_2 (e_v rfl) e_k rfl))) (st_seqR (st_then (b_of (e_2 (e_v rfl) e_k rfl)) (st_ret (e_tup (a_c (e_2 (e_v rfl) e_k (mod_e (by decide))) (a_c (e_v rfl) a_n)) (Nat.le_of_ble_eq_true rfl))))))
 · obtain ⟨i,rfl⟩ := (show Ti x from tx)
   exact b_rt rfl (st_seq (st_pass (b_of (e_2 (e_v rfl) e_k rfl))) (st_seq (st_pass (b_of (e_2 (e_v rfl) e_k rfl))) (st_seqR (st_then (b_of (e_2 (e_v rfl) e_k rfl)) (st_ret (e_2 (e_v rfl) e_k (div_e (by decide))))))))
 · obtain ⟨i,rfl⟩ := (show Ti x from tx)
   exact b_rt rfl (st_seq (st_pass (b_of (e_2 (e_v rfl) e_k rfl))) (st_seq (st_pass (b_of (e_2 (e_v rfl) e_k rfl))) (st_seq (st_pass (b_of (e_2 (e_v rfl) e_k rfl))) (st_seqR (st_then (b_of (e_2 (e_v rfl) e_k rfl)) (st_ret (e_a (a_c (e_v rfl) a_n) rfl)))))))
 · exact b_rt rfl (st_seq (st_pass (b_of (e_2 (e_v rfl) e_k rfl))) (st_seq (st_pass (b_of (e_2 (e_v rfl) e_k rfl))) (st_seq (st_pass (b_of (e_2 (e_v rfl) e_k rfl))) (st_seq (st_pass (b_of (e_2 (e_v rfl) e_k rfl))) (st_seq (st_pass (b_of (e_2 (e_v rfl) e_k rfl))) (st_seq (st_pass (b_of (e_2 (e_v rfl) e_k rfl))) (st_ret (e_v rfl))))))))
 · obtain ⟨z,rfl,hl⟩ := (show Tw x from tx)
   have ln : lenD S [.str z] = some (.int z.length) := by show (if z.length ≤ sizeLine then some (D.int z.length) else none) = _; rw [if_pos (by omega)]
   exact b_rt rfl (st_seq (st_pass (b_of (e_2 (e_v rfl) e_k rfl))) (st_seq (st_pass (b_of (e_2 (e_v rfl) e_k rfl))) (st_seq (st_pass (b_of (e_2 (e_v rfl) e_k rfl))) (st_seq (st_pass (b_of (e_2 (e_v rfl) e_k rfl))) (st_seqR (st_then (b_of (e_2 (e_v rfl) e_k rfl)) (st_ret (e_tup (a_c (e_a (a_c (e_v rfl) a_n) ln) (a_c (e_v rfl) a_n)) (Nat.le_of_ble_eq_true rfl)))))))))
 · obtain ⟨z,rfl,hl⟩ := (show Tw x from tx)
   have sl : eSlS (eV 1) pN (pE (eK (.int 1))) [some (.int 7),some (.str z)] S = some (.str (strSl z none (some 1)),S) := by
     have h2 := sl_len z none (some 1)
     have h3 : (strSl z none (some 1)).length ≤ sizeLine := by omega
     simp [eSlS,eV,pN,pE,eK,opSlS,h3]
   exact b_rt rfl (st_seq (st_pass (b_of (e_2 (e_v rfl) e_k rfl))) (st_seq (st_pass (b_of (e_2 (e_v rfl) e_k rfl))) (st_seq (st_pass (b_of (e_2 (e_v rfl) e_k rfl))) (st_seq (st_pass (b_of (e_2 (e_v rfl) e_k rfl))) (st_seq (st_pass (b_of (e_2 (e_v rfl) e_k rfl))) (st_seqR (st_then (b_of (e_2 (e_v rfl) e_k rfl)) (st_ret sl))))))))
theorem kinds {κ : Int} (h0 : 0 ≤ κ) (h1 : κ < 8) : ∃ lt,Ky (TkOf κ) (kyOf κ) lt := by
 have : κ = 0 ∨ κ = 1 ∨ κ = 2 ∨ κ = 3 ∨ κ = 4 ∨ κ = 5 ∨ κ = 6 ∨ κ = 7 := by omega
 rcases this with rfl | rfl | rfl | rfl | rfl | rfl | rfl | rfl
 · exact ⟨_,ky_of (T := Ti) lo_int iv (fun x y hx hy => by obtain ⟨i,rfl⟩ := hx; obtain ⟨j,rfl⟩ := hy; exact ltI i j Iff.rfl) (fun x y hx hy e => by obtain ⟨i,rfl⟩ := hx; obtain ⟨j,rfl⟩ := hy; exact congrArg D.int e) (fun x hx => by obtain ⟨i,rfl⟩ := hx; rfl) fun x hx => by obtain ⟨i,rfl⟩ := hx; rfl⟩
 · exact ⟨_,ky_of (T := Ti) lo_int (fun x => 0 - iv x) (fun x y hx hy => by obtain ⟨i,rfl⟩ := hx; obtain ⟨j,rfl⟩ := hy; exact ltI _ _ Iff.rfl) (fun x y hx hy e => by obtain ⟨i,rfl⟩ := hx; obtain ⟨j,rfl⟩ := hy; exact congrArg D.int e) (fun x hx => by obtain ⟨i,rfl⟩ := hx; rfl) fun x hx => by obtain ⟨i,rfl⟩ := hx; rfl⟩
 · exact ⟨_,ky_of (T := Ti) (lo_pair lo_int lo_int) (fun x => (iv x % 7,iv x)) (fun x y hx hy => by obtain ⟨i,rfl⟩ := hx; obtain ⟨j,rfl⟩ := hy; exact ltP _ _ _ _ Iff.rfl) (fun x y hx hy e => by obtain ⟨i,rfl⟩ := hx; obtain ⟨j,rfl⟩ := hy; have := congrArg Prod.snd e; dsimp only [iv] at this; rw [this]) (fun x hx => by obtain ⟨i,rfl⟩ := hx; rfl) fun x hx => by obtain ⟨i,rfl⟩ := hx; rfl⟩
 · exact ⟨_,ky_of (T := Ti) lo_int (fun x => iv x / 3) (fun x y hx hy => by obtain ⟨i,rfl⟩ := hx; obtain ⟨j,rfl⟩ := hy; exact ltI _ _ Iff.rfl) (fun x y hx hy e => by obtain ⟨i,rfl⟩ := hx; obtain ⟨j,rfl⟩ := hy; exact congrArg D.int e) (fun x hx => by obtain ⟨i,rfl⟩ := hx; rfl) fun x hx => by obtain ⟨i,rfl⟩ := hx; rfl⟩
 · exact ⟨_,ky_of (T := Ti) lo_int (fun x => if iv x < 0 then - iv x else iv x) (fun x y hx hy => by obtain ⟨i,rfl⟩ := hx; obtain ⟨j,rfl⟩ := hy; exact ltI _ _ Iff.rfl) (fun x y hx hy e => by obtain ⟨i,rfl⟩ := hx; obtain ⟨j,rfl⟩ := hy; exact congrArg D.int e) (fun x hx => by obtain ⟨i,rfl⟩ := hx; rfl) fun x hx => by obtain ⟨i,rfl⟩ := hx; rfl⟩
 · exact ⟨_,ky_of (T := Tw) lo_list (fun x => (sv x).cps.toList) (fun x y hx hy => by obtain ⟨i,rfl,_⟩ := hx; obtain ⟨j,rfl,_⟩ := hy; exact ltS i j Iff.rfl) (fun x y hx hy e => by obtain ⟨i,rfl,_⟩ := hx; obtain ⟨j,rfl,_⟩ := hy; exact congrArg D.str (str_inj e)) (fun x hx => by obtain ⟨i,rfl,_⟩ := hx; rfl) fun x hx => by obtain ⟨i,rfl,_⟩ := hx; rfl⟩
 · exact ⟨_,ky_of (T := Tw) (lo_pair lo_int lo_list) (fun x => (((sv x).length : Int),(sv x).cps.toList)) (fun x y hx hy => by obtain ⟨i,rfl,_⟩ := hx; obtain ⟨j,rfl,_⟩ := hy; exact ltQ _ _ _ _ Iff.rfl) (fun x y hx hy e => by obtain ⟨i,rfl,_⟩ := hx; obtain ⟨j,rfl,_⟩ := hy; have := str_inj (congrArg Prod.snd e); dsimp only [sv] at this; rw [this]) (fun x hx => by obtain ⟨i,rfl,_⟩ := hx; rfl) fun x hx => by obtain ⟨i,rfl,_⟩ := hx; rfl⟩
 · exact ⟨_,ky_of (T := Tw) lo_list (fun x => (strSl (sv x) none (some 1)).cps.toList) (fun x y hx hy => by obtain ⟨i,rfl,_⟩ := hx; obtain ⟨j,rfl,_⟩ := hy; exact ltS _ _ Iff.rfl) (fun x y hx hy e => by obtain ⟨i,rfl,_⟩ := hx; obtain ⟨j,rfl,_⟩ := hy; exact congrArg D.str (str_inj e)) (fun x hx => by obtain ⟨i,rfl,_⟩ := hx; rfl) fun x hx => by obtain ⟨i,rfl,_⟩ := hx; rfl⟩
theorem tk_th {κ : Int} (tx : TkOf κ x) : Thing 0 x := by
 unfold TkOf at tx
 split at tx
 · exact .inl tx
 · exact .inr tx
theorem bf_of {κ : Int} (h0 : 0 ≤ κ) (h1 : κ < 8) {lt : D → D → Bool} (k : Ky (TkOf κ) (kyOf κ) lt) : Bf (TkOf κ) lt lt_0 [.int κ] := by
 refine ⟨rfl,rfl,fun x hx => tk_th hx,⟨gl_0,by unfold clot; rw [if_pos rfl],fun x y hx hy S => ?_⟩,k.sw⟩
 show ge_0 [some x,some y,some (.int κ)] S = _
 exact e_2 (e_call (a_c (e_v rfl) (a_c (e_v rfl) a_n)) (key_ok h0 h1 hx)) (e_call (a_c (e_v rfl) (a_c (e_v rfl) a_n)) (key_ok h0 h1 hy)) (k.op x y hx hy)
end Pg
set_option maxHeartbeats 8000000
namespace Pg
open PySem L2 F
noncomputable section
def c_law (cl : List (Str × Addr)) : C :=
 (sSeq (sSet 1 (e2 opMod (eCall g__law_cell (aC (eV 0) (aC (eK (.int 0)) aN))) (eK (.int 8)))) (sSeq (sSet 2 (eLam 0 "law" { lt_0 with cl := cl })) (sSeq (sSet 3 (eMake "Wood" (dflt 1 g_Wood___init__) aN)) (sSeq (sSet 4 (eNewL aN)) (sSeq (sForR 5 (eK (.int 3)) (sSeq (sSet 6 (eK .non)) (sSeq (sForR 7 (e2 opMod (eCall g__law_cell (aC (eV 0) (aC (e2 opAdd (eK (.int 1)) (eV 5)) aN))) (eK (.int 13))) (sSet 6 (eCallD g_added (aC (eV 3) (aC (eV 6) (aC (eCall g__law_thing (aC (eV 1) (aC (eCall g__law_cell (aC (eV 0) (aC (e2 opAdd (e2 opAdd (eK (.int 20)) (e2 opMul (eK (.int 20)) (eV 5))) (eV 7)) aN))) aN))) aN))) 2 lt_0 cl [1]))) (sAppend (eV 4) (eV 6))))) (sSeq (sIf (bNot (bE (eCallD g__law_right (aC (eV 4) aN) 2 lt_0 cl [1]))) (sRet (eK (.bl false))) sNil) (sSeq (sForLT [8,9] (eLst (aC (eTup (aC (e2s opIx (eV 4) (eK (.int 0))) (aC (e2s opIx (eV 4) (eK (.int 1))) aN))) (aC (eTup (aC (e2s opIx (eV 4) (eK (.int 1))) (aC (e2s opIx (eV 4) (eK (.int 2))) aN))) (aC (eTup (aC (e2s opIx (eV 4) (eK (.int 2))) (aC (e2s opIx (eV 4) (eK (.int 0))) aN))) aN)))) (sIf (bNot (bE (eCallD g__law_two (aC (eV 3) (aC (eV 8) (aC (eV 9) aN))) 2 lt_0 cl [1]))) (sRet (eK (.bl false))) sNil)) (sSeq (sSet 10 (eCallD g_either (aC (eV 3) (aC (eCallD g_either (aC (eV 3) (aC (e2s opIx (eV 4) (eK (.int 0))) (aC (e2s opIx (eV 4) (eK (.int 1))) aN))) 2 lt_0 cl [1]) (aC (e2s opIx (eV 4) (eK (.int 2))) aN))) 2 lt_0 cl [1])) (sSeq (sSet 11 (eCallD g_either (aC (eV 3) (aC (e2s opIx (eV 4) (eK (.int 0))) (aC (eCallD g_either (aC (eV 3) (aC (e2s opIx (eV 4) (eK (.int 1))) (aC (e2s opIx (eV 4) (eK (.int 2))) aN))) 2 lt_0 cl [1]) aN))) 2 lt_0 cl [1])) (sSeq (sSet 12 (eCallD g_either (aC (eV 3) (aC (e2s opIx (eV 4) (eK (.int 2))) (aC (eCallD g_either (aC (eV 3) (aC (e2s opIx (eV 4) (eK (.int 1))) (aC (e2s opIx (eV 4) (eK (.int 0))) aN))) 2 lt_0 cl [1]) aN))) 2 lt_0 cl [1])) (sRet (eAnd (e2 opEq (eCall g_things_of (aC (eV 10) aN)) (eCall g_things_of (aC (eV 11) aN))) (e2 opEq (eCall g__law_keys (aC (eV 1) (aC (eV 10) aN))) (eCall g__law_keys (aC (eV 1) (aC (eV 12) aN))))))))))))))))
def g_law : G := gA fun cl => bodyF 13 1 (c_law cl)
end
end Pg
set_option maxHeartbeats 4000000
namespace Pg
open PySem L2 F Mt
variable {d d0 d1 d2 l r t x y : D} {ts us as bs ms rt : List D} {h i j g rh h1 h2 : Nat} {n : Int} {S S0 S1 R : Sto} {ev : Ev} {T : D → Prop} {lt : D → D → Bool} {f : LT} {vs : List D}
theorem ab_le : (Str.ofString "abcde").length ≤ sizeLine := by decide +kernel
theorem ab_len : (Str.ofString "abcde").cps.toList.length = 5 := by decide +kernel
theorem ab_at (c : Int) : ∃ z,∀ S : Sto,opIx S (.str (Str.ofString "abcde")) (.int (c % 5)) = some (.str ⟨#[z]⟩) := by
 have x0 := Int.emod_nonneg c (show (5 : Int) ≠ 0 by decide)
 have x1 := Int.emod_lt_of_pos c (show (0 : Int) < 5 by decide)
 generalize c % 5 = z at x0 x1
 have hat : ∃ c,atI (Str.ofString "abcde").cps.toList z = some c := by
   have hz : z.toNat < (Str.ofString "abcde").cps.toList.length := by rw [ab_len]; omega
   have e3 := atI_nat (List.getElem?_eq_getElem hz)
   rw [show ((z.toNat : Nat) : Int) = z by omega] at e3
   exact ⟨_,e3⟩
 obtain ⟨y,hy⟩ := hat
 refine ⟨y,fun S => ?_⟩
 unfold opIx
 simp only [if_pos ab_le,hy]
 rfl
noncomputable def tB : C := sSet 2 (e2 opAdd (eV 2) (e2s opIx (eK (.str (Str.ofString "abcde"))) (e2 opMod (e2 opDiv (eV 1) (e2s opIx (eTup (aC (eK (.int 3)) (aC (eK (.int 15)) (aC (eK (.int 75)) aN)))) (eV 3))) (eK (.int 5)))))
theorem t_loop (κ c : Int) : ∀ (m lo : Nat) (z : Str) (o : Option D),lo + m ≤ 3 → z.length ≤ lo → ∃ z' : Str,z'.length ≤ 3 ∧ ∃ o',∀ S,loopF 3 tB (rangeD (lo : Int) m) [some (.int κ),some (.int c),some (.str z),o] S = some (.nx [some (.int κ),some (.int c),some (.str z'),o'],S)
 | 0,lo,z,o,hm,hz => ⟨z,by omega,o,fun S => rfl⟩
 | m + 1,lo,z,o,hm,hz => by
   have hs : sizeLine = 16777216 := sizeLine_eq
   obtain ⟨q,hq,iq⟩ : ∃ q : Int,(0 < q ∧ q < 1073741824) ∧ ∀ S : Sto,opIx S (.tup [.int 3,.int 15,.int 75]) (.int lo) = some (.int q) := by
     have : lo = 0 ∨ lo = 1 ∨ lo = 2 := by omega
     rcases this with rfl | rfl | rfl
     · exact ⟨3,by decide,fun S => rfl⟩
     · exact ⟨15,by decide,fun S => rfl⟩
     · exact ⟨75,by decide,fun S => rfl⟩
   obtain ⟨y,hy⟩ := ab_at (c / q)
   have l1 : (⟨#[y]⟩ : Str).length = 1 := rfl
   have ad : opAdd (.str z) (.str ⟨#[y]⟩) = some (.str (z ++ ⟨#[y]⟩)) := by
     show (if z.length + (⟨#[y]⟩ : Str).length ≤ sizeLine then some (D.str (z ++ ⟨#[y]⟩)) else none) = _
     rw [if_pos (by omega)]
   obtain ⟨z',hz',o',ih⟩ := t_loop κ c m (lo + 1) (z ++ ⟨#[y]⟩) (some (.int lo)) (by omega) (by rw [Mt.str_len]; omega)
   refine ⟨z',hz',o',fun S => ?_⟩
   rw [range_cons,show ((lo : Int) + 1) = ((lo + 1 : Nat) : Int) from rfl]
   exact loop_nx (st_set (e_2 (e_v rfl) (e_2s e_k (e_2 (e_2 (e_v rfl) (e_2s (e_tup (a_c e_k (a_c e_k (a_c e_k a_n))) (Nat.le_of_ble_eq_true rfl)) (e_v rfl) (iq _)) (div_e hq)) e_k (mod_e (by decide))) (hy _)) ad)) (ih S)
theorem thing_ok {κ : Int} (h0 : 0 ≤ κ) (h1 : κ < 8) (c : Int) : ∃ x,TkOf κ x ∧ ∀ S,g__law_thing [.int κ,.int c] S = some (x,S) := by
 by_cases q : κ < 5
 · refine ⟨.int (c / 9 % 31 - 15),?_,fun S => b_rt rfl (st_seqR (st_then (b_of (e_2 (e_v rfl) e_k ((lt_w _ _).trans (by rw [decide_eq_true q])))) (st_ret (e_2 (e_2 (e_2 (e_v rfl) e_k (div_e (by decide))) e_k (mod_e (by decide))) e_k (sub_int _ _)))))⟩
   unfold TkOf; rw [if_pos q]; exact ⟨_,rfl⟩
 · have w0 := Int.emod_nonneg c (show (3 : Int) ≠ 0 by decide)
   have w1 := Int.emod_lt_of_pos c (show (0 : Int) < 3 by decide)
   obtain ⟨z,hz,o',lp⟩ := t_loop κ c (1 + c % 3).toNat 0 ⟨#[]⟩ none (by omega) (by decide)
   refine ⟨.str z,?_,fun S => b_rt rfl (st_seq (st_pass (b_of (e_2 (e_v rfl) e_k ((lt_w _ _).trans (by rw [decide_eq_false q]))))) (st_seq (st_set (d := .str ⟨#[]⟩) e_k) (st_seq (st_forR (b := tB) (e_2 e_k (e_2 (e_v rfl) e_k (mod_e (by decide))) (add_int _ _)) (by omega) (by omega) (lp S)) (st_ret (e_v rfl)))))⟩
   unfold TkOf; rw [if_neg q]; exact ⟨z,rfl,by omega⟩
theorem Mk.noC (m : Mk 0 d ts h) : F.noC d = true := by
 induction m with
 | non => rfl
 | @node num a l t r lt rt lh rh ml mr ht h1 h2 i1 i2 =>
   rw [sumD_zero,sumD_zero]
   unfold mkD
   show noCL _ = true
   simp only [noCL,i1,i2,noC_th ht,F.noC,Bool.and_true]
theorem bnd_th {m : Nat} (hx : Thing 0 x) : bnd m x = true := bnd_thing (k := 0) hx
theorem Mk.bndm (m : Mk 0 d ts h) (q : Nat) : bnd q d = true := by
 induction m with
 | non => rfl
 | @node num a l t r lt rt lh rh ml mr ht h1 h2 i1 i2 =>
   rw [sumD_zero,sumD_zero]
   unfold mkD
   show bndL q _ = true
   simp only [bndL,i1,i2,bnd_th ht,bnd,Bool.and_true]
def Ms (T : D → Prop) (lt : D → D → Bool) (b : Nat) (ms : List D) : Prop := ∀ d ∈ ms,∃ ts h,Ste T lt d ts h ∧ ts.length ≤ b
theorem Ms.rk {b : Nat} (hm : Ms T lt b ms) : Rk [.lst ms] := by
 have e1 : ∀ {l : List D},(∀ d ∈ l,F.noC d = true) → noCL l = true := fun {l} hl => by
   induction l with
   | nil => rfl
   | cons x l ih => unfold noCL; rw [hl x (List.mem_cons_self ..),ih fun y hy => hl y (List.mem_cons_of_mem _ hy)]; rfl
 have e2 : ∀ {l : List D} {q : Nat},(∀ d ∈ l,bnd q d = true) → bndL q l = true := fun {l q} hl => by
   induction l with
   | nil => rfl
   | cons x l ih => unfold bndL; rw [hl x (List.mem_cons_self ..),ih fun y hy => hl y (List.mem_cons_of_mem _ hy)]; rfl
 refine ⟨?_,fun m hq => ?_⟩
 · show (noCL ms && true) = true
   rw [e1 fun d hd => let ⟨_,_,s,_⟩ := hm d hd; Mk.noC s.mm]; rfl
 · rw [List.mem_singleton.mp hq]
   exact e2 fun d hd => let ⟨_,_,s,_⟩ := hm d hd; Mk.bndm s.mm _
theorem callD_e {g : G} {a : As} {q : Nat} {t : LT} {cl : List (Str × Addr)} {is : List Nat} {ds kv : List D} {S2 : Sto} (ha : a ev S = some (ds,S1)) (hq : ev[q]? = some (some (.lam { t with cl := cl }))) (hc : capsV ev is = some kv) (hg : g (ds ++ [.clo t kv]) S1 = some (d,S2)) (h1 : F.noC d = true) (h2 : noCS S2 = true) : eCallD g a q t cl is ev S = some (d,S2) := by
 simp only [eCallD,ha,Option.bind_some,hq,if_true,hc,hg,h1,h2,Bool.and_self]
theorem lam_e {j : Nat} {y : Str} {t : LT} (ht' : S[j]? = some (.tab y ((y ++ ".<locals>.") ++ "<lambda>"))) (ht : t.qual = (y ++ ".<locals>.") ++ "<lambda>") : eLam j y t ev S = some (.lam t,S) := by
 unfold eLam
 rw [ht']
 exact if_pos ⟨rfl,ht.symm⟩
def En (ns : List Int) (κ : Int) (cl : List (Str × Addr)) (o5 o6 o7 o8 o9 o10 o11 o12 : Option D) : Ev := [some (.lst (ns.map D.int)),some (.int κ),some (.lam { lt_0 with cl := cl }),some (.obj 1),some (.obj 2),o5,o6,o7,o8,o9,o10,o11,o12]
noncomputable def iB (cl : List (Str × Addr)) : C := (sSet 6 (eCallD g_added (aC (eV 3) (aC (eV 6) (aC (eCall g__law_thing (aC (eV 1) (aC (eCall g__law_cell (aC (eV 0) (aC (e2 opAdd (e2 opAdd (eK (.int 20)) (e2 opMul (eK (.int 20)) (eV 5))) (eV 7)) aN))) aN))) aN))) 2 lt_0 cl [1]))
theorem in_loop (ns : List Int) (hn : ns.length ≤ 63) {κ : Int} (h0 : 0 ≤ κ) (h1 : κ < 8) (B : Bf (TkOf κ) lt lt_0 [.int κ]) {b : Nat} (hm : Ms (TkOf κ) lt b ms) {kk : Int} (k0 : 0 ≤ kk) (k1 : kk < 100) : ∀ (js : List D),(∀ x ∈ js,∃ i : Int,x = .int i ∧ 0 ≤ i ∧ i < 10000) → ∀ {n : Int} {d : D} {ts : List D} {h : Nat} (o7 : Option D),Ste (TkOf κ) lt d ts h → ts.length + js.length < 2000 →
   ∃ n' d' ts' h' o7',Ste (TkOf κ) lt d' ts' h' ∧ ts'.length ≤ ts.length + js.length ∧ ∀ cl,loopF 7 (iB cl) js (En ns κ cl (some (.int kk)) (some d) o7 none none none none none) (Z n [.lst ms]) = some (.nx (En ns κ cl (some (.int kk)) (some d') o7' none none none none none),Z n' [.lst ms])
 | [],_,n,d,ts,h,o7,s,hl => ⟨n,d,ts,h,o7,s,by simp,fun cl => rfl⟩
 | jj :: js,hj,n,d,ts,h,o7,s,hl => by
   obtain ⟨i,rfl,i0,i1⟩ := hj jj (List.mem_cons_self ..)
   rw [List.length_cons] at hl
   obtain ⟨c,_,_,hc⟩ := cell_ok ns hn (q := 20 + 20 * kk + i) (by omega) (by omega)
   obtain ⟨x,tx,cx⟩ := thing_ok h0 h1 c
   obtain ⟨d',ts',h',n',ca,s',l'⟩ := added_ok (n := n) B hm.rk tx s (by omega)
   obtain ⟨n2,d2,ts2,h2,o7',s2,l2,ih⟩ := in_loop ns hn h0 h1 B hm k0 k1 js (fun x hx => hj x (List.mem_cons_of_mem _ hx)) (n := n') (some (.int i)) s' (by omega)
   refine ⟨n2,d2,ts2,h2,o7',s2,by rw [List.length_cons]; omega,fun cl => ?_⟩
   refine loop_nx (e1 := En ns κ cl (some (.int kk)) (some d') (some (.int i)) none none none none none) (st_set (callD_e (S1 := Z n [.lst ms]) (a_c (e_v rfl) (a_c (e_v rfl) (a_c (e_call (a_c (e_v rfl) (a_c (e_call (a_c (e_v rfl) (a_c (e_2 (e_2 e_k (e_2 e_k (e_v rfl) (mul_eL (by decide))) (add_int _ _)) (e_v rfl) (add_int _ _)) a_n)) (hc _)) a_n)) (cx _)) a_n))) rfl rfl ca (Mk.noC s'.mm) hm.rk.noCS)) (ih cl)
noncomputable def oB (cl : List (Str × Addr)) : C := (sSeq (sSet 6 (eK .non)) (sSeq (sForR 7 (e2 opMod (eCall g__law_cell (aC (eV 0) (aC (e2 opAdd (eK (.int 1)) (eV 5)) aN))) (eK (.int 13))) (iB cl)) (sAppend (eV 4) (eV 6))))
theorem Ms.app {b : Nat} (hm : Ms T lt b ms) (s : Ste T lt d ts h) (hl : ts.length ≤ b) : Ms T lt b (ms ++ [d]) := fun z hz => (List.mem_append.mp hz).elim (hm z) fun e => by rw [List.mem_singleton.mp e]; exact ⟨ts,h,s,hl⟩
theorem out_turn (ns : List Int) (hn : ns.length ≤ 63) {κ : Int} (h0 : 0 ≤ κ) (h1 : κ < 8) (B : Bf (TkOf κ) lt lt_0 [.int κ]) (hm : Ms (TkOf κ) lt 12 ms) (lm : ms.length < 10) {kk : Int} (k0 : 0 ≤ kk) (k1 : kk < 100) (o6 o7 : Option D) : ∃ n' d' o7',Ms (TkOf κ) lt 12 (ms ++ [d']) ∧ ∀ cl,oB cl (En ns κ cl (some (.int kk)) o6 o7 none none none none none) (Z n [.lst ms]) = some (.nx (En ns κ cl (some (.int kk)) (some d') o7' none none none none none),Z n' [.lst (ms ++ [d'])]) := by
 obtain ⟨c,_,_,hc⟩ := cell_ok ns hn (q := 1 + kk) (by omega) (by omega)
 obtain ⟨e,he,ce⟩ := mod_pos c (c := 13) (by decide)
 have s0 : Ste (TkOf κ) lt .non [] 0 := ⟨.non,fun x hx => (by cases hx),List.Pairwise.nil⟩
 obtain ⟨n',d',ts',h',o7',s',l',lp⟩ := in_loop ns hn h0 h1 B hm k0 k1 (rangeD 0 e) (rng (by omega)) (n := n) o7 s0 (by rw [rng_len]; simp; omega)
 rw [rng_len] at l'
 refine ⟨n',d',o7',hm.app s' (by simp at l'; omega),fun cl => st_seq (st_set e_k) (st_seq (st_forR (b := iB cl) (n := (e : Int)) (S1 := Z n [.lst ms]) (e_2 (e_call (a_c (e_v rfl) (a_c (e_2 e_k (e_v rfl) (add_int _ _)) a_n)) (hc _)) e_k ce) (by omega) (by omega) (by rw [Int.toNat_natCast]; exact lp cl)) ?_)⟩
 exact st_append (j := 2) (us := ms) (S := Z n' [.lst ms]) rfl rfl (e_v rfl) (by omega)
theorem keys_comp {κ : Int} (h0 : 0 ≤ κ) (h1 : κ < 8) : ∀ {ts : List D},Al (TkOf κ) ts → compF bYes (eCall g__law_key (aC (eV 1) (aC (eV 0) aN))) [some (.int κ)] ts S = some (ts.map (kyOf κ),S)
 | [],_ => rfl
 | x :: ts,al => by
   have ih := keys_comp h0 h1 al.tail
   unfold compF
   have c1 : eCall g__law_key (aC (eV 1) (aC (eV 0) aN)) [some x,some (.int κ)] S = some (kyOf κ x,S) := e_call (a_c (e_v rfl) (a_c (e_v rfl) a_n)) (key_ok h0 h1 al.head)
   simp only [bYes,Option.bind_some,if_true,c1,ih,List.map_cons]
theorem keys_ok {κ : Int} (h0 : 0 ≤ κ) (h1 : κ < 8) (s : Ste (TkOf κ) lt d ts h) (hl : ts.length ≤ 2000) (hS : SB S) : g__law_keys [.int κ,d] S = some (.lst (ts.map (kyOf κ)),S) := by
 refine b_rt rfl (st_ret ?_)
 show eCompL [0] (eCall g_things_of (aC (eV 1) aN)) bYes (eCall g__law_key (aC (eV 1) (aC (eV 0) aN))) [some (.int κ),some d] S = _
 unfold eCompL
 rw [e_call (a_c (e_v rfl) a_n) (things_of_ok s.mm hl hS)]
 simp only [Option.bind_some]
 show (compF bYes (eCall g__law_key (aC (eV 1) (aC (eV 0) aN))) [some (.int κ)] ts S).map _ = _
 rw [keys_comp h0 h1 s.al]; rfl
theorem map_eq {ky : D → D} (k : Ky T ky lt) {l m : List D} (f2 : F2 (alk lt) l m) : Al T l → Al T m → l.map ky = m.map ky := by
 induction f2 with
 | nil => intros; rfl
 | cons r _ ih => intro a b; rw [List.map_cons,List.map_cons,k.anti _ _ a.head b.head r,ih a.tail b.tail]
noncomputable def uB (cl : List (Str × Addr)) : C := (sIf (bNot (bE (eCallD g__law_two (aC (eV 3) (aC (eV 8) (aC (eV 9) aN))) 2 lt_0 cl [1]))) (sRet (eK (.bl false))) sNil)
theorem loopT_nx {i j : Nat} {b : C} {x y : D} {ds : List D} {e1 : Ev} {o : Out} {S2 : Sto} (h : b ((ev.set i (some x)).set j (some y)) S = some (.nx e1,S1)) (q : loopFT [i,j] b ds e1 S1 = some (o,S2)) : loopFT [i,j] b (.tup [x,y] :: ds) ev S = some (o,S2) := by
 simp only [loopFT,setAll,Option.bind_some,h,q]
theorem law_ok : LawOkT tabs g_law := by
 intro ns hn
 obtain ⟨c0,_,_,hc0⟩ := cell_ok ns hn (q := 0) (by decide) (by decide)
 have h0 := Int.emod_nonneg c0 (show (8 : Int) ≠ 0 by decide)
 have h1 := Int.emod_lt_of_pos c0 (show (0 : Int) < 8 by decide)
 obtain ⟨lt,ky⟩ := kinds h0 h1
 have B := bf_of h0 h1 ky
 have w := ky.sw
 generalize hκ : c0 % 8 = κ at *
 have m0 : Ms (TkOf κ) lt 12 [] := fun z hz => by cases hz
 obtain ⟨n1,a,oa,m1,r1⟩ := out_turn (n := 0) ns hn h0 h1 B m0 (by decide) (kk := 0) (by decide) (by decide) none none
 obtain ⟨n2,b,ob,m2,r2⟩ := out_turn (n := n1) ns hn h0 h1 B m1 (by simp) (kk := 1) (by decide) (by decide) (some a) oa
 obtain ⟨n3,c,oc,m3,r3⟩ := out_turn (n := n2) ns hn h0 h1 B m2 (by simp) (kk := 2) (by decide) (by decide) (some b) ob
 have k := m3.rk
 obtain ⟨at_,ha,sa,la⟩ := m3 a (by simp)
 obtain ⟨bt_,hb,sb,lb⟩ := m3 b (by simp)
 obtain ⟨ct_,hc,sc,lc⟩ := m3 c (by simp)
 have rt : g__law_right ([.obj 2] ++ [.clo lt_0 [.int κ]]) (Z n3 [.lst ([] ++ [a] ++ [b] ++ [c])]) = some (.bl true,Z n3 [.lst ([] ++ [a] ++ [b] ++ [c])]) := right_o (ds := [] ++ [a] ++ [b] ++ [c]) B k.noCS k.sb rfl fun z hz => let ⟨ts,h,s,l⟩ := m3 z hz; ⟨ts,h,s,by omega⟩
 obtain ⟨n4,t1⟩ := two_ok (n := n3) B k sa sb (by omega)
 obtain ⟨n5,t2⟩ := two_ok (n := n4) B k sb sc (by omega)
 obtain ⟨n6,t3⟩ := two_ok (n := n5) B k sc sa (by omega)
 have lab := size_sum w sa.al sb.al sa.sr sb.sr
 have lbc := size_sum w sb.al sc.al sb.sr sc.sr
 have lba := size_sum w sb.al sa.al sb.sr sa.sr
 obtain ⟨ab,hab,n7,e1,sab⟩ := either_ok (n := n6) B k sa sb (by omega)
 obtain ⟨fr,hfr,n8,e2,sfr⟩ := either_ok (n := n7) B k sab sc (by omega)
 obtain ⟨bc,hbc,n9,e3,sbc⟩ := either_ok (n := n8) B k sb sc (by omega)
 obtain ⟨se,hse,n10,e4,sse⟩ := either_ok (n := n9) B k sa sbc (by omega)
 obtain ⟨ba,hba,n11,e5,sba⟩ := either_ok (n := n10) B k sb sa (by omega)
 obtain ⟨tu,htu,n12,e6,stu⟩ := either_ok (n := n11) B k sc sba (by omega)
 have l1 := size_sum w sab.al sc.al sab.sr sc.sr
 have l2 := size_sum w sa.al sbc.al sa.sr sbc.sr
 have l3 := size_sum w sc.al sba.al sc.sr sba.sr
 have q1 : opEq (.lst (mrg lt (mrg lt at_ bt_) ct_)) (.lst (mrg lt at_ (mrg lt bt_ ct_))) = some (.bl true) := by
   rw [mrg_assoc w sa.al sb.al sc.al sa.sr sb.sr sc.sr]
   exact eq_pl (pl_mono (by decide) (pl_lst sse.mm.things))
 have q2 : opEq (.lst ((mrg lt (mrg lt at_ bt_) ct_).map (kyOf κ))) (.lst ((mrg lt ct_ (mrg lt bt_ at_)).map (kyOf κ))) = some (.bl true) := by
   rw [map_eq ky (mrg_turn w sa.al sb.al sc.al sa.sr sb.sr sc.sr) sfr.al stu.al]
   refine eq_pl (pl_mono (n := 3) (by decide) (List.all_eq_true.mpr fun x hx => ?_))
   obtain ⟨y,hy,rfl⟩ := List.mem_map.mp hx
   exact ky.pl y (stu.al y hy)
 refine ⟨Z n12 [.lst ([] ++ [a] ++ [b] ++ [c])],gA_of fun cl => ?_⟩
 have fr3 : ∀ {o10 o11 : Option D},(En ns κ cl (some (.int 2)) (some c) oc (some c) (some a) o10 o11 none)[2]? = some (some (.lam { lt_0 with cl := cl })) := rfl
 have lp : loopF 5 (oB cl) (rangeD 0 3) (En ns κ cl none none none none none none none none) (Z 0 [.lst []]) = some (.nx (En ns κ cl (some (.int 2)) (some c) oc none none none none none),Z n3 [.lst ([] ++ [a] ++ [b] ++ [c])]) :=
   loop_nx (r1 cl) (loop_nx (r2 cl) (loop_nx (r3 cl) rfl))
 have two : ∀ {n n' : Int} {x y : D} {o8 o9 : Option D},g__law_two ([.obj 1,x,y] ++ [.clo lt_0 [.int κ]]) (Z n [.lst ([] ++ [a] ++ [b] ++ [c])]) = some (.bl true,Z n' [.lst ([] ++ [a] ++ [b] ++ [c])]) → uB cl (En ns κ cl (some (.int 2)) (some c) oc (some x) (some y) none none none) (Z n [.lst ([] ++ [a] ++ [b] ++ [c])]) = some (.nx (En ns κ cl (some (.int 2)) (some c) oc (some x) (some y) none none none),Z n' [.lst ([] ++ [a] ++ [b] ++ [c])]) := fun t =>
   st_pass (b_nT (b_of (callD_e (a_c (e_v rfl) (a_c (e_v rfl) (a_c (e_v rfl) a_n))) rfl rfl t rfl k.noCS)))
 have lpT : sForLT [8,9] (eLst (aC (eTup (aC (e2s opIx (eV 4) (eK (.int 0))) (aC (e2s opIx (eV 4) (eK (.int 1))) aN))) (aC (eTup (aC (e2s opIx (eV 4) (eK (.int 1))) (aC (e2s opIx (eV 4) (eK (.int 2))) aN))) (aC (eTup (aC (e2s opIx (eV 4) (eK (.int 2))) (aC (e2s opIx (eV 4) (eK (.int 0))) aN))) aN)))) (uB cl) (En ns κ cl (some (.int 2)) (some c) oc none none none none none) (Z n3 [.lst ([] ++ [a] ++ [b] ++ [c])]) = some (.nx (En ns κ cl (some (.int 2)) (some c) oc (some c) (some a) none none none),Z n6 [.lst ([] ++ [a] ++ [b] ++ [c])]) := by
   have e : eLst (aC (eTup (aC (e2s opIx (eV 4) (eK (.int 0))) (aC (e2s opIx (eV 4) (eK (.int 1))) aN))) (aC (eTup (aC (e2s opIx (eV 4) (eK (.int 1))) (aC (e2s opIx (eV 4) (eK (.int 2))) aN))) (aC (eTup (aC (e2s opIx (eV 4) (eK (.int 2))) (aC (e2s opIx (eV 4) (eK (.int 0))) aN))) aN))) (En ns κ cl (some (.int 2)) (some c) oc none none none none none) (Z n3 [.lst ([] ++ [a] ++ [b] ++ [c])]) = some (.lst [.tup [a,b],.tup [b,c],.tup [c,a]],Z n3 [.lst ([] ++ [a] ++ [b] ++ [c])]) := e_lst (a_c (e_tup (a_c (e_2s (e_v rfl) e_k rfl) (a_c (e_2s (e_v rfl) e_k rfl) a_n)) (Nat.le_of_ble_eq_true rfl)) (a_c (e_tup (a_c (e_2s (e_v rfl) e_k rfl) (a_c (e_2s (e_v rfl) e_k rfl) a_n)) (Nat.le_of_ble_eq_true rfl)) (a_c (e_tup (a_c (e_2s (e_v rfl) e_k rfl) (a_c (e_2s (e_v rfl) e_k rfl) a_n)) (Nat.le_of_ble_eq_true rfl)) a_n))) (Nat.le_of_ble_eq_true rfl)
   simp only [sForLT,e,Option.bind_some]
   exact loopT_nx (two (o8 := none) (o9 := none) t1) (loopT_nx (two (o8 := none) (o9 := none) t2) (loopT_nx (two (o8 := none) (o9 := none) t3) rfl))
 exact b_rt rfl (st_seq (st_set (d := .int κ) (e_2 (e_call (a_c (e_v rfl) (a_c e_k a_n)) (hc0 _)) e_k ((mod_e (by decide)).trans (by rw [hκ])))) (st_seq (st_set (lam_e (y := "law") rfl rfl)) (st_seq (st_set wood_e0) (st_seq (st_set (e_newL (S1 := Z 0 []) a_n (Nat.zero_le _))) (st_seq (st_forR (b := oB cl) (n := (3 : Int)) (S1 := Z 0 [.lst []]) e_k (by decide) (by decide) lp) (st_seq (st_pass (b_nT (b_of (callD_e (a_c (e_v rfl) a_n) rfl rfl rt rfl k.noCS)))) (st_seq lpT (st_seq (st_set (callD_e (a_c (e_v rfl) (a_c (callD_e (a_c (e_v rfl) (a_c (e_2s (e_v rfl) e_k rfl) (a_c (e_2s (e_v rfl) e_k rfl) a_n))) rfl rfl e1 (Mk.noC sab.mm) k.noCS) (a_c (e_2s (e_v rfl) e_k rfl) a_n))) rfl rfl e2 (Mk.noC sfr.mm) k.noCS)) (st_seq (st_set (callD_e (a_c (e_v rfl) (a_c (e_2s (e_v rfl) e_k rfl) (a_c (callD_e (a_c (e_v rfl) (a_c (e_2s (e_v rfl) e_k rfl) (a_c (e_2s (e_v rfl) e_k rfl) a_n))) rfl rfl e3 (Mk.noC sbc.mm) k.noCS) a_n))) rfl rfl e4 (Mk.noC sse.mm) k.noCS)) (st_seq (st_set (callD_e (a_c (e_v rfl) (a_c (e_2s (e_v rfl) e_k rfl) (a_c (callD_e (a_c (e_v rfl) (a_c (e_2s (e_v rfl) e_k rfl) (a_c (e_2s (e_v rfl) e_k rfl) a_n))) rfl rfl e5 (Mk.noC sba.mm) k.noCS) a_n))) rfl rfl e6 (Mk.noC stu.mm) k.noCS)) (st_ret (e_andT (e_2 (e_call (a_c (e_v rfl) a_n) (things_of_ok sfr.mm (by omega) k.sb)) (e_call (a_c (e_v rfl) a_n) (things_of_ok sse.mm (by omega) k.sb)) q1) (e_2 (e_call (a_c (e_v rfl) (a_c (e_v rfl) a_n)) (keys_ok h0 h1 sfr (by omega) k.sb)) (e_call (a_c (e_v rfl) (a_c (e_v rfl) a_n)) (keys_ok h0 h1 stu (by omega) k.sb)) q2)))))))))))))
end Pg
set_option maxHeartbeats 8000000
namespace Pg
open PySem L2 F PySem.Spec PyProof.Rows
variable {P : Program} {w : World} {K : PySem.W.Frag} {mg : Str → Option Value} {base : Heap} {f : Addr} {cdv : Value} {A : Around} {outer : List Env} {s : Shared} {H : Hp} {E : XK}
seal F.FE F.FB F.FW F.FA F.FS F.FSs F.FPt
def top (i : Nat) : Stmt := PySem.Challenge.pw_ownshelf_k25_whole_sets_by_sets.main.body.getD i (.Pass ⟨0,0,0,0⟩)
abbrev s_Wood___init__ : Stmt := inClass (top 45) 0
abbrev s__law_cell : Stmt := top 67
abbrev s__law_key : Stmt := top 68
abbrev s_seen : Stmt := top 26
abbrev s_gather : Stmt := top 51
abbrev s_things_of : Stmt := top 50
abbrev s__law_keys : Stmt := top 70
abbrev s_is_whole : Stmt := top 35
abbrev s_has_form : Stmt := top 34
abbrev s_height : Stmt := top 22
abbrev s_height_above : Stmt := top 28
abbrev s_in_balance : Stmt := top 29
abbrev s_size : Stmt := top 21
abbrev s_size_above : Stmt := top 27
abbrev s_has_right_measures : Stmt := top 36
abbrev s_back : Stmt := top 24
abbrev s_backward_sum : Stmt := top 32
abbrev s_total : Stmt := top 23
abbrev s_onward_sum : Stmt := top 31
abbrev s_sums_above : Stmt := top 30
abbrev s_has_right_sums : Stmt := top 37
abbrev s_is_right : Stmt := top 33
abbrev s__law_right : Stmt := top 71
abbrev s__law_thing : Stmt := top 69
abbrev s_check_place : Stmt := top 47
abbrev s_thing_at : Stmt := top 53
abbrev s_at : Stmt := top 52
abbrev s_is_alike_at : Stmt := top 60
abbrev s_count_before : Stmt := top 58
abbrev s_place_of : Stmt := top 57
abbrev s_has : Stmt := top 59
abbrev s_Wood_numbered : Stmt := inClass (top 45) 4
abbrev s_check_room : Stmt := top 44
abbrev s_Wood_node : Stmt := inClass (top 45) 2
abbrev s_built : Stmt := top 49
abbrev s_make_of : Stmt := top 48
abbrev s_common : Stmt := top 64
abbrev s_merged : Stmt := top 63
abbrev s_either : Stmt := top 62
abbrev s_less : Stmt := top 65
abbrev s__law_two : Stmt := top 72
abbrev s_Wood_turned : Stmt := inClass (top 45) 3
abbrev s_parts : Stmt := top 25
abbrev s_lifted_left : Stmt := top 40
abbrev s_lifted_right : Stmt := top 41
abbrev s_balanced : Stmt := top 39
abbrev s_put_in : Stmt := top 55
abbrev s_put : Stmt := top 54
abbrev s_added : Stmt := top 61
abbrev s_law : Stmt := top 73
structure TX (K : PySem.W.Frag) (mg : Str → Option Value) (base : Heap) : Prop where
 b_abs : mg "abs" = none
 b_bool : mg "bool" = none
 b_int : mg "int" = none
 b_isinstance : mg "isinstance" = none
 b_len : mg "len" = none
 b_max : mg "max" = none
 b_range : mg "range" = none
 b_tuple : mg "tuple" = none
 i_ABOUT : ∃ t,mg "ABOUT" = some (.int 1 t)
 i_AHEAD : ∃ t,mg "AHEAD" = some (.int 0 t)
 i_BACK : ∃ t,mg "BACK" = some (.int 8 t)
 i_BEHIND : ∃ t,mg "BEHIND" = some (.int 2 t)
 i_HEIGHT : ∃ t,mg "HEIGHT" = some (.int 6 t)
 i_LEFT : ∃ t,mg "LEFT" = some (.int 2 t)
 i_MIDDLE : ∃ t,mg "MIDDLE" = some (.int 1 t)
 i_MOST_THINGS : ∃ t,mg "MOST_THINGS" = some (.int 2000 t)
 i_NUMBER : ∃ t,mg "NUMBER" = some (.int 0 t)
 i_RIGHT : ∃ t,mg "RIGHT" = some (.int 4 t)
 i_SIZE : ∃ t,mg "SIZE" = some (.int 5 t)
 i_THING : ∃ t,mg "THING" = some (.int 3 t)
 i_TOTAL : ∃ t,mg "TOTAL" = some (.int 7 t)
 i_TURNED : ∃ t,mg "TURNED" = some (.int 3 t)
 i_VALUES_OF_A_NODE : ∃ t,mg "VALUES_OF_A_NODE" = some (.int 9 t)
 w_Wood_adding : Fld K mg "Wood" "adding"
 w_Wood_nodes_made : Fld K mg "Wood" "nodes_made"
 blt : BltB base mg
 f_Wood___init__ : HasMk K mg "Wood" "Wood.__init__" s_Wood___init__ 1
 f__law_cell : HasDef K mg "_law_cell" s__law_cell 0
 f__law_key : HasDef K mg "_law_key" s__law_key 0
 f_seen : HasDef K mg "seen" s_seen 0
 f_gather : HasDef K mg "gather" s_gather 0
 f_things_of : HasDef K mg "things_of" s_things_of 0
 f__law_keys : HasDef K mg "_law_keys" s__law_keys 0
 f_is_whole : HasDef K mg "is_whole" s_is_whole 0
 f_has_form : HasDef K mg "has_form" s_has_form 0
 f_height : HasDef K mg "height" s_height 0
 f_height_above : HasDef K mg "height_above" s_height_above 0
 f_in_balance : HasDef K mg "in_balance" s_in_balance 0
 f_size : HasDef K mg "size" s_size 0
 f_size_above : HasDef K mg "size_above" s_size_above 0
 f_has_right_measures : HasDef K mg "has_right_measures" s_has_right_measures 0
 f_back : HasDef K mg "back" s_back 0
 f_backward_sum : HasDef K mg "backward_sum" s_backward_sum 0
 f_total : HasDef K mg "total" s_total 0
 f_onward_sum : HasDef K mg "onward_sum" s_onward_sum 0
 f_sums_above : HasDef K mg "sums_above" s_sums_above 0
 f_has_right_sums : HasDef K mg "has_right_sums" s_has_right_sums 0
 f_is_right : HasDef K mg "is_right" s_is_right 1
 f__law_right : HasDef K mg "_law_right" s__law_right 0
 f__law_thing : HasDef K mg "_law_thing" s__law_thing 0
 f_check_place : HasDef K mg "check_place" s_check_place 0
 f_thing_at : HasDef K mg "thing_at" s_thing_at 0
 f_at : HasDef K mg "at" s_at 0
 f_is_alike_at : HasDef K mg "is_alike_at" s_is_alike_at 0
 f_count_before : HasDef K mg "count_before" s_count_before 0
 f_place_of : HasDef K mg "place_of" s_place_of 0
 f_has : HasDef K mg "has" s_has 0
 f_Wood_numbered : HasMth K mg "Wood" "numbered" "Wood.numbered" s_Wood_numbered
 f_check_room : HasDef K mg "check_room" s_check_room 0
 f_Wood_node : HasMth K mg "Wood" "node" "Wood.node" s_Wood_node
 f_built : HasDef K mg "built" s_built 0
 f_make_of : HasDef K mg "make_of" s_make_of 0
 f_common : HasDef K mg "common" s_common 0
 f_merged : HasDef K mg "merged" s_merged 0
 f_either : HasDef K mg "either" s_either 0
 f_less : HasDef K mg "less" s_less 0
 f__law_two : HasDef K mg "_law_two" s__law_two 0
 f_Wood_turned : HasMth K mg "Wood" "turned" "Wood.turned" s_Wood_turned
 f_parts : HasDef K mg "parts" s_parts 0
 f_lifted_left : HasDef K mg "lifted_left" s_lifted_left 0
 f_lifted_right : HasDef K mg "lifted_right" s_lifted_right 0
 f_balanced : HasDef K mg "balanced" s_balanced 0
 f_put_in : HasDef K mg "put_in" s_put_in 0
 f_put : HasDef K mg "put" s_put 0
 f_added : HasDef K mg "added" s_added 0
 f_law : HasDef K mg "law" s_law 0
theorem sl_0 : CloScope ["_law_one", "_law_other"] ["_law_kind"] lt_0.scope := ⟨rfl,rfl,rfl,by decide +kernel,(List.forall_mem_cons.mpr ⟨rfl,(List.forall_mem_cons.mpr ⟨rfl,(fun _ h => nomatch h)⟩)⟩),(List.forall_mem_cons.mpr ⟨rfl,(fun _ h => nomatch h)⟩),by decide +kernel,by decide +kernel⟩
theorem dl_0 (T : TX K mg base) (C__law_key : Cal P w K mg base 1 "_law_key" g__law_key) {a c : Addr} {cl : List (Str × Addr)} {A : Around} {outer : List Env} {s : Shared} {H H1 : Hp} {E : XK} (hr : Room 1 (A.deeper (PySem.W.envX lt_0.qual lt_0.scope s.heap.objs.size a (.ref c) cl))) :
   FE (cxC P w K mg base ["_law_one", "_law_other", "_law_kind"] lt_0.qual lt_0.scope a (.ref c) cl A outer s H H1 E).nox lt_0.body ge_0 := by
 exact (fe_ltK hr (fe_call C__law_key (hr.mono (by decide)) (fa_cons (fe_v 2) (fa_cons (fe_v 0) fa_nil))) (fe_call C__law_key (hr.mono (by decide)) (fa_cons (fe_v 2) (fa_cons (fe_v 1) fa_nil))))
theorem kl_0 (T : TX K mg base) (C__law_key : Cal P w K mg base 1 "_law_key" g__law_key) : CCal P w K mg base 2 lt_0 gl_0 := CCal.of (t := lt_0) (ps := ["_law_one", "_law_other"]) (k := 1) (f := ge_0) sl_0 rfl (fun _ _ _ _ => ls2 fun _ _ => rfl) (fun a c cl A outer s H H1 E hr => dl_0 T C__law_key hr)
theorem sc_Wood___init__ : FnScope ["self", "add"] ["self", "add"] (defScope s_Wood___init__) := ⟨rfl,rfl,rfl,by decide +kernel,rfl,by decide +kernel,by decide +kernel⟩
theorem d_Wood___init__ (T : TX K mg base) (hr : Room 0 (A.deeper (envOfC "Wood.__init__" (defScope s_Wood___init__) s.heap.objs.size f cdv))) :
   FSs (cxOf CX0 P w K mg base ["self", "add"] "Wood.__init__" (defScope s_Wood___init__) f cdv A outer s H E).nox (defBody s_Wood___init__) c_Wood___init__ := by
 have nd := sc_Wood___init__.nd
 exact (fss_cons (fs_fld T.w_Wood_adding (fe_v 0) (fe_v 1)) (fss_one (fs_fld T.w_Wood_nodes_made (fe_v 0) fe_int)))
theorem kk_Wood___init__ (T : TX K mg base) : Mak P w K mg base 1 "Wood" g_Wood___init__ := T.f_Wood___init__.mk1 sc_Wood___init__ (fun _ _ _ _ _ _ _ => ls2 fun _ _ => ⟨_,rfl,rfl⟩) (fun f cdv A outer s H E hr => d_Wood___init__ T  hr)
theorem kd_Wood___init__ (T : TX K mg base) : Mak P w K mg base 1 "Wood" (dflt 1 g_Wood___init__) := T.f_Wood___init__.mk1d sc_Wood___init__ rfl (fun _ _ _ _ _ _ _ => ls1 fun _ => ⟨_,rfl,rfl⟩) (fun f cdv A outer s H E hr => d_Wood___init__ T  hr)
theorem sc__law_cell : FnScope ["_law_script", "_law_k", "_law_cell_here"] ["_law_script", "_law_k"] (defScope s__law_cell) := ⟨rfl,rfl,rfl,by decide +kernel,rfl,by decide +kernel,by decide +kernel⟩
theorem d__law_cell (T : TX K mg base) (hr : Room 0 (A.deeper (envOfC "_law_cell" (defScope s__law_cell) s.heap.objs.size f cdv))) :
   FSs (cxOf CX0 P w K mg base ["_law_script", "_law_k", "_law_cell_here"] "_law_cell" (defScope s__law_cell) f cdv A outer s H E).nox (defBody s__law_cell) c__law_cell := by
 have nd := sc__law_cell.nd
 exact (fss_cons (fs_set 2 (fe_add (fe_mul (fe_mul (fe_v 1) (fe_v 1)) fe_int) fe_int) nd) (fss_cons (fs_if (fb_gt (fe_len T.b_len (fa_cons (fe_v 0) fa_nil)) fe_int) (fss_one (fs_set 2 (fe_add (fe_mod (fe_ix (fe_v 0) (fe_mod (fe_v 1) (fe_len T.b_len (fa_cons (fe_v 0) fa_nil)))) (fe_pow fe_int fe_int)) (fe_mul (fe_div (fe_v 1) (fe_len T.b_len (fa_cons (fe_v 0) fa_nil))) fe_int)) nd)) fss_nil) (fss_one (fs_ret (fe_mod (fe_mul (fe_mod (fe_add (fe_mul (fe_v 2) fe_int) (fe_mul (fe_v 1) fe_int)) fe_int) (fe_add (fe_mod (fe_v 2) fe_int) fe_int)) fe_int)))))
theorem kk__law_cell (T : TX K mg base) : Cal P w K mg base 1 "_law_cell" g__law_cell := (T.f__law_cell.cal sc__law_cell (fun _ _ _ _ _ _ => ls2 fun _ _ => rfl) (fun f cdv A outer s H E hr => d__law_cell T  hr))
theorem sc__law_key : FnScope ["_law_kind", "_law_thing_here"] ["_law_kind", "_law_thing_here"] (defScope s__law_key) := ⟨rfl,rfl,rfl,by decide +kernel,rfl,by decide +kernel,by decide +kernel⟩
theorem d__law_key (T : TX K mg base) (hr : Room 0 (A.deeper (envOfC "_law_key" (defScope s__law_key) s.heap.objs.size f cdv))) :
   FSs (cxOf CX0 P w K mg base ["_law_kind", "_law_thing_here"] "_law_key" (defScope s__law_key) f cdv A outer s H E).nox (defBody s__law_key) c__law_key := by
 have nd := sc__law_key.nd
 exact (fss_cons (fs_if (fb_eq hr (fe_v 0) fe_int) (fss_one (fs_ret (fe_sub fe_int (fe_v 1)))) fss_nil) (fss_cons (fs_if (fb_eq hr (fe_v 0) fe_int) (fss_one (fs_ret (fe_tup (fa_cons (fe_mod (fe_v 1) fe_int) (fa_cons (fe_v 1) fa_nil))))) fss_nil) (fss_cons (fs_if (fb_eq hr (fe_v 0) fe_int) (fss_one (fs_ret (fe_div (fe_v 1) fe_int))) fss_nil) (fss_cons (fs_if (fb_eq hr (fe_v 0) fe_int) (fss_one (fs_ret (fe_abs T.b_abs (fa_cons (fe_v 1) fa_nil)))) fss_nil) (fss_cons (fs_if (fb_eq hr (fe_v 0) fe_int) (fss_one (fs_ret (fe_tup (fa_cons (fe_len T.b_len (fa_cons (fe_v 1) fa_nil)) (fa_cons (fe_v 1) fa_nil))))) fss_nil) (fss_cons (fs_if (fb_eq hr (fe_v 0) fe_int) (fss_one (fs_ret (fe_sliceS (fe_v 1) fp_none (fp_some fe_int)))) fss_nil) (fss_one (fs_ret (fe_v 1)))))))))
theorem kk__law_key (T : TX K mg base) : Cal P w K mg base 1 "_law_key" g__law_key := (T.f__law_key.cal sc__law_key (fun _ _ _ _ _ _ => ls2 fun _ _ => rfl) (fun f cdv A outer s H E hr => d__law_key T  hr))
theorem sc_seen : FnScope ["make", "turned"] ["make", "turned"] (defScope s_seen) := ⟨rfl,rfl,rfl,by decide +kernel,rfl,by decide +kernel,by decide +kernel⟩
theorem d_seen (T : TX K mg base) (hr : Room 0 (A.deeper (envOfC "seen" (defScope s_seen) s.heap.objs.size f cdv))) :
   FSs (cxOf CX0 P w K mg base ["make", "turned"] "seen" (defScope s_seen) f cdv A outer s H E).nox (defBody s_seen) c_seen := by
 have nd := sc_seen.nd
 exact (fss_cons (fs_if (fb_eq hr (fe_ix (fe_v 0) (fe_gi T.i_ABOUT)) (fe_v 1)) (fss_one (fs_ret (fe_tup (fa_cons (fe_ix (fe_v 0) (fe_gi T.i_LEFT)) (fa_cons (fe_ix (fe_v 0) (fe_gi T.i_THING)) (fa_cons (fe_ix (fe_v 0) (fe_gi T.i_RIGHT)) (fa_cons fe_bl fa_nil))))))) fss_nil) (fss_one (fs_ret (fe_tup (fa_cons (fe_ix (fe_v 0) (fe_gi T.i_RIGHT)) (fa_cons (fe_ix (fe_v 0) (fe_gi T.i_THING)) (fa_cons (fe_ix (fe_v 0) (fe_gi T.i_LEFT)) (fa_cons fe_bl fa_nil))))))))
theorem kk_seen (T : TX K mg base) : Cal P w K mg base 1 "seen" g_seen := (T.f_seen.cal sc_seen (fun _ _ _ _ _ _ => ls2 fun _ _ => rfl) (fun f cdv A outer s H E hr => d_seen T  hr))
theorem sc_gather : FnScope ["make", "turned", "found", "row"] ["make", "turned", "found"] (defScope s_gather) := ⟨rfl,rfl,rfl,by decide +kernel,rfl,by decide +kernel,by decide +kernel⟩
theorem d_gather (T : TX K mg base) (C_seen : Cal P w K mg base 1 "seen" g_seen) {self : G} {n : Nat} (hself : Cal P w K mg base (2 + n) "gather" self) (hr0 : Room (2 + n) (A.deeper (envOfC "gather" (defScope s_gather) s.heap.objs.size f cdv))) :
   FSs (cxOf CX0 P w K mg base ["make", "turned", "found", "row"] "gather" (defScope s_gather) f cdv A outer s H E).nox (defBody s_gather) (c_gather self) := by
 have nd := sc_gather.nd
 have hr := hr0.mono (Nat.le_add_right 2 n)
 exact (fss_cons (fs_if (fb_is (fe_v 0) fe_non) (fss_one fs_retN) fss_nil) (fss_cons (fs_set 3 (fe_call C_seen (hr.mono (by decide)) (fa_cons (fe_v 0) (fa_cons (fe_v 1) fa_nil))) nd) (fss_cons (fs_expr (fe_call hself hr0 (fa_cons (fe_ix (fe_v 3) (fe_gi T.i_AHEAD)) (fa_cons (fe_ix (fe_v 3) (fe_gi T.i_TURNED)) (fa_cons (fe_v 2) fa_nil))))) (fss_cons (fs_append (fe_v 2) (fe_ix (fe_v 3) (fe_gi T.i_MIDDLE))) (fss_one (fs_expr (fe_call hself hr0 (fa_cons (fe_ix (fe_v 3) (fe_gi T.i_BEHIND)) (fa_cons (fe_ix (fe_v 3) (fe_gi T.i_TURNED)) (fa_cons (fe_v 2) fa_nil))))))))))
theorem kk_gather (T : TX K mg base) (C_seen : Cal P w K mg base 1 "seen" g_seen) : ∀ n : Nat,Cal P w K mg base (2 + n) "gather" (g_gather n)
 | 0 => T.f_gather.none0 (ps := ["make", "turned", "found"]) (fun _ _ _ _ _ _ => ls3 fun _ _ _ => rfl)
 | n + 1 => T.f_gather.cal sc_gather (fun _ _ _ _ _ _ => ls3 fun _ _ _ => rfl) (fun f cdv A outer s H E hr => d_gather T C_seen (kk_gather T C_seen n) hr)
theorem sc_things_of : FnScope ["make", "found"] ["make"] (defScope s_things_of) := ⟨rfl,rfl,rfl,by decide +kernel,rfl,by decide +kernel,by decide +kernel⟩
theorem d_things_of (T : TX K mg base) (C_gather : Cal P w K mg base (2 + 40) "gather" (g_gather 40)) (hr : Room 42 (A.deeper (envOfC "things_of" (defScope s_things_of) s.heap.objs.size f cdv))) :
   FSs (cxOf CX0 P w K mg base ["make", "found"] "things_of" (defScope s_things_of) f cdv A outer s H E).nox (defBody s_things_of) c_things_of := by
 have nd := sc_things_of.nd
 exact (fss_cons (fs_set 1 (fe_newL fa_nil) nd) (fss_cons (fs_expr (fe_call C_gather (hr.mono (by decide)) (fa_cons (fe_v 0) (fa_cons fe_bl (fa_cons (fe_v 1) fa_nil))))) (fss_one (fs_ret (fe_v 1)))))
theorem kk_things_of (T : TX K mg base) (C_gather : Cal P w K mg base (2 + 40) "gather" (g_gather 40)) : Cal P w K mg base 43 "things_of" g_things_of := (T.f_things_of.cal sc_things_of (fun _ _ _ _ _ _ => ls1 fun _ => rfl) (fun f cdv A outer s H E hr => d_things_of T C_gather hr)).frz
theorem sc__law_keys : FnScope ["_law_kind", "_law_make"] ["_law_kind", "_law_make"] (defScope s__law_keys) := ⟨rfl,rfl,rfl,by decide +kernel,rfl,by decide +kernel,by decide +kernel⟩
theorem d__law_keys (T : TX K mg base) (C__law_key : Cal P w K mg base 1 "_law_key" g__law_key) (C_things_of : Cal P w K mg base 43 "things_of" g_things_of) (hr : Room 43 (A.deeper (envOfC "_law_keys" (defScope s__law_keys) s.heap.objs.size f cdv))) :
   FSs (cxOf CX0 P w K mg base ["_law_kind", "_law_make"] "_law_keys" (defScope s__law_keys) f cdv A outer s H E).nox (defBody s__law_keys) c__law_keys := by
 have nd := sc__law_keys.nd
 exact (fss_one (fs_ret (fe_compL (compOk_mk (x := "_law_thing_here") (N' := ["_law_kind"]) (fr := [0]) (by decide +kernel) rfl rfl rfl rfl rfl) (fe_call C_things_of (hr.mono (by decide)) (fa_cons (fe_v 1) fa_nil)) (fun _ _ _ _ => .nil) (fun _ _ _ _ => (fe_call C__law_key (hr.mono (by decide)) (fa_cons (fe_v 1) (fa_cons (fe_v 0) fa_nil)))))))
theorem kk__law_keys (T : TX K mg base) (C__law_key : Cal P w K mg base 1 "_law_key" g__law_key) (C_things_of : Cal P w K mg base 43 "things_of" g_things_of) : Cal P w K mg base 44 "_law_keys" g__law_keys := (T.f__law_keys.cal sc__law_keys (fun _ _ _ _ _ _ => ls2 fun _ _ => rfl) (fun f cdv A outer s H E hr => d__law_keys T C__law_key C_things_of hr))
theorem sc_is_whole : FnScope ["value"] ["value"] (defScope s_is_whole) := ⟨rfl,rfl,rfl,by decide +kernel,rfl,by decide +kernel,by decide +kernel⟩
theorem d_is_whole (T : TX K mg base) (hr : Room 0 (A.deeper (envOfC "is_whole" (defScope s_is_whole) s.heap.objs.size f cdv))) :
   FSs (cxOf CX0 P w K mg base ["value"] "is_whole" (defScope s_is_whole) f cdv A outer s H E).nox (defBody s_is_whole) c_is_whole := by
 have nd := sc_is_whole.nd
 exact (fss_one (fs_ret (fe_and (fe_isi T.b_isinstance (fa_cons (fe_v 0) (fa_cons (fe_bty "int" T.b_int F.boot_int) fa_nil))) (fe_one (fe_not (fe_isi T.b_isinstance (fa_cons (fe_v 0) (fa_cons (fe_bty "bool" T.b_bool F.boot_bool) fa_nil))))))))
theorem kk_is_whole (T : TX K mg base) : Cal P w K mg base 1 "is_whole" g_is_whole := (T.f_is_whole.cal sc_is_whole (fun _ _ _ _ _ _ => ls1 fun _ => rfl) (fun f cdv A outer s H E hr => d_is_whole T  hr))
theorem sc_has_form : FnScope ["make"] ["make"] (defScope s_has_form) := ⟨rfl,rfl,rfl,by decide +kernel,rfl,by decide +kernel,by decide +kernel⟩
theorem d_has_form (T : TX K mg base) (C_is_whole : Cal P w K mg base 1 "is_whole" g_is_whole) (hr : Room 1 (A.deeper (envOfC "has_form" (defScope s_has_form) s.heap.objs.size f cdv))) :
   FSs (cxOf CX0 P w K mg base ["make"] "has_form" (defScope s_has_form) f cdv A outer s H E).nox (defBody s_has_form) c_has_form := by
 have nd := sc_has_form.nd
 exact (fss_cons (fs_if (fb_w (fw_or (fb_not (fb_val (fe_isi T.b_isinstance (fa_cons (fe_v 0) (fa_cons (fe_bty "tuple" T.b_tuple F.boot_tuple) fa_nil))))) (fw_or1 (fb_ne hr (fe_len T.b_len (fa_cons (fe_v 0) fa_nil)) (fe_gi T.i_VALUES_OF_A_NODE))))) (fss_one (fs_ret fe_bl)) fss_nil) (fss_cons (fs_if (fb_not (fb_val (fe_isi T.b_isinstance (fa_cons (fe_ix (fe_v 0) (fe_gi T.i_ABOUT)) (fa_cons (fe_bty "bool" T.b_bool F.boot_bool) fa_nil))))) (fss_one (fs_ret fe_bl)) fss_nil) (fss_one (fs_ret (fe_and (fe_call C_is_whole (hr.mono (by decide)) (fa_cons (fe_ix (fe_v 0) (fe_gi T.i_NUMBER)) fa_nil)) (fe_and (fe_call C_is_whole (hr.mono (by decide)) (fa_cons (fe_ix (fe_v 0) (fe_gi T.i_SIZE)) fa_nil)) (fe_one (fe_call C_is_whole (hr.mono (by decide)) (fa_cons (fe_ix (fe_v 0) (fe_gi T.i_HEIGHT)) fa_nil)))))))))
theorem kk_has_form (T : TX K mg base) (C_is_whole : Cal P w K mg base 1 "is_whole" g_is_whole) : Cal P w K mg base 2 "has_form" g_has_form := (T.f_has_form.cal sc_has_form (fun _ _ _ _ _ _ => ls1 fun _ => rfl) (fun f cdv A outer s H E hr => d_has_form T C_is_whole hr))
theorem sc_height : FnScope ["make"] ["make"] (defScope s_height) := ⟨rfl,rfl,rfl,by decide +kernel,rfl,by decide +kernel,by decide +kernel⟩
theorem d_height (T : TX K mg base) (hr : Room 0 (A.deeper (envOfC "height" (defScope s_height) s.heap.objs.size f cdv))) :
   FSs (cxOf CX0 P w K mg base ["make"] "height" (defScope s_height) f cdv A outer s H E).nox (defBody s_height) c_height := by
 have nd := sc_height.nd
 exact (fss_cons (fs_if (fb_is (fe_v 0) fe_non) (fss_one (fs_ret fe_int)) fss_nil) (fss_one (fs_ret (fe_ix (fe_v 0) (fe_gi T.i_HEIGHT)))))
theorem kk_height (T : TX K mg base) : Cal P w K mg base 1 "height" g_height := (T.f_height.cal sc_height (fun _ _ _ _ _ _ => ls1 fun _ => rfl) (fun f cdv A outer s H E hr => d_height T  hr))
theorem sc_height_above : FnScope ["left", "right"] ["left", "right"] (defScope s_height_above) := ⟨rfl,rfl,rfl,by decide +kernel,rfl,by decide +kernel,by decide +kernel⟩
theorem d_height_above (T : TX K mg base) (C_height : Cal P w K mg base 1 "height" g_height) (hr : Room 1 (A.deeper (envOfC "height_above" (defScope s_height_above) s.heap.objs.size f cdv))) :
   FSs (cxOf CX0 P w K mg base ["left", "right"] "height_above" (defScope s_height_above) f cdv A outer s H E).nox (defBody s_height_above) c_height_above := by
 have nd := sc_height_above.nd
 exact (fss_one (fs_ret (fe_add fe_int (fe_max T.b_max (fa_cons (fe_call C_height (hr.mono (by decide)) (fa_cons (fe_v 0) fa_nil)) (fa_cons (fe_call C_height (hr.mono (by decide)) (fa_cons (fe_v 1) fa_nil)) fa_nil))))))
theorem kk_height_above (T : TX K mg base) (C_height : Cal P w K mg base 1 "height" g_height) : Cal P w K mg base 2 "height_above" g_height_above := (T.f_height_above.cal sc_height_above (fun _ _ _ _ _ _ => ls2 fun _ _ => rfl) (fun f cdv A outer s H E hr => d_height_above T C_height hr))
theorem sc_in_balance : FnScope ["left", "right"] ["left", "right"] (defScope s_in_balance) := ⟨rfl,rfl,rfl,by decide +kernel,rfl,by decide +kernel,by decide +kernel⟩
theorem d_in_balance (T : TX K mg base) (C_height : Cal P w K mg base 1 "height" g_height) (hr : Room 1 (A.deeper (envOfC "in_balance" (defScope s_in_balance) s.heap.objs.size f cdv))) :
   FSs (cxOf CX0 P w K mg base ["left", "right"] "in_balance" (defScope s_in_balance) f cdv A outer s H E).nox (defBody s_in_balance) c_in_balance := by
 have nd := sc_in_balance.nd
 exact (fss_one (fs_ret (fe_le (fe_abs T.b_abs (fa_cons (fe_sub (fe_call C_height (hr.mono (by decide)) (fa_cons (fe_v 0) fa_nil)) (fe_call C_height (hr.mono (by decide)) (fa_cons (fe_v 1) fa_nil))) fa_nil)) fe_int)))
theorem kk_in_balance (T : TX K mg base) (C_height : Cal P w K mg base 1 "height" g_height) : Cal P w K mg base 2 "in_balance" g_in_balance := (T.f_in_balance.cal sc_in_balance (fun _ _ _ _ _ _ => ls2 fun _ _ => rfl) (fun f cdv A outer s H E hr => d_in_balance T C_height hr))
theorem sc_size : FnScope ["make"] ["make"] (defScope s_size) := ⟨rfl,rfl,rfl,by decide +kernel,rfl,by decide +kernel,by decide +kernel⟩
theorem d_size (T : TX K mg base) (hr : Room 0 (A.deeper (envOfC "size" (defScope s_size) s.heap.objs.size f cdv))) :
   FSs (cxOf CX0 P w K mg base ["make"] "size" (defScope s_size) f cdv A outer s H E).nox (defBody s_size) c_size := by
 have nd := sc_size.nd
 exact (fss_cons (fs_if (fb_is (fe_v 0) fe_non) (fss_one (fs_ret fe_int)) fss_nil) (fss_one (fs_ret (fe_ix (fe_v 0) (fe_gi T.i_SIZE)))))
theorem kk_size (T : TX K mg base) : Cal P w K mg base 1 "size" g_size := (T.f_size.cal sc_size (fun _ _ _ _ _ _ => ls1 fun _ => rfl) (fun f cdv A outer s H E hr => d_size T  hr))
theorem sc_size_above : FnScope ["left", "right"] ["left", "right"] (defScope s_size_above) := ⟨rfl,rfl,rfl,by decide +kernel,rfl,by decide +kernel,by decide +kernel⟩
theorem d_size_above (T : TX K mg base) (C_size : Cal P w K mg base 1 "size" g_size) (hr : Room 1 (A.deeper (envOfC "size_above" (defScope s_size_above) s.heap.objs.size f cdv))) :
   FSs (cxOf CX0 P w K mg base ["left", "right"] "size_above" (defScope s_size_above) f cdv A outer s H E).nox (defBody s_size_above) c_size_above := by
 have nd := sc_size_above.nd
 exact (fss_one (fs_ret (fe_add (fe_add (fe_call C_size (hr.mono (by decide)) (fa_cons (fe_v 0) fa_nil)) fe_int) (fe_call C_size (hr.mono (by decide)) (fa_cons (fe_v 1) fa_nil)))))
theorem kk_size_above (T : TX K mg base) (C_size : Cal P w K mg base 1 "size" g_size) : Cal P w K mg base 2 "size_above" g_size_above := (T.f_size_above.cal sc_size_above (fun _ _ _ _ _ _ => ls2 fun _ _ => rfl) (fun f cdv A outer s H E hr => d_size_above T C_size hr))
theorem sc_has_right_measures : FnScope ["make", "left", "right"] ["make"] (defScope s_has_right_measures) := ⟨rfl,rfl,rfl,by decide +kernel,rfl,by decide +kernel,by decide +kernel⟩
theorem d_has_right_measures (T : TX K mg base) (C_height_above : Cal P w K mg base 2 "height_above" g_height_above) (C_in_balance : Cal P w K mg base 2 "in_balance" g_in_balance) (C_size_above : Cal P w K mg base 2 "size_above" g_size_above) (hr : Room 2 (A.deeper (envOfC "has_right_measures" (defScope s_has_right_measures) s.heap.objs.size f cdv))) :
   FSs (cxOf CX0 P w K mg base ["make", "left", "right"] "has_right_measures" (defScope s_has_right_measures) f cdv A outer s H E).nox (defBody s_has_right_measures) c_has_right_measures := by
 have nd := sc_has_right_measures.nd
 exact (fss_cons (fs_set 1 (fe_ix (fe_v 0) (fe_gi T.i_LEFT)) nd) (fss_cons (fs_set 2 (fe_ix (fe_v 0) (fe_gi T.i_RIGHT)) nd) (fss_cons (fs_if (fb_not (fb_val (fe_call C_in_balance (hr.mono (by decide)) (fa_cons (fe_v 1) (fa_cons (fe_v 2) fa_nil))))) (fss_one (fs_ret fe_bl)) fss_nil) (fss_one (fs_ret (fe_and (fe_eq hr (fe_ix (fe_v 0) (fe_gi T.i_SIZE)) (fe_call C_size_above (hr.mono (by decide)) (fa_cons (fe_v 1) (fa_cons (fe_v 2) fa_nil)))) (fe_one (fe_eq hr (fe_ix (fe_v 0) (fe_gi T.i_HEIGHT)) (fe_call C_height_above (hr.mono (by decide)) (fa_cons (fe_v 1) (fa_cons (fe_v 2) fa_nil)))))))))))
theorem kk_has_right_measures (T : TX K mg base) (C_height_above : Cal P w K mg base 2 "height_above" g_height_above) (C_in_balance : Cal P w K mg base 2 "in_balance" g_in_balance) (C_size_above : Cal P w K mg base 2 "size_above" g_size_above) : Cal P w K mg base 3 "has_right_measures" g_has_right_measures := (T.f_has_right_measures.cal sc_has_right_measures (fun _ _ _ _ _ _ => ls1 fun _ => rfl) (fun f cdv A outer s H E hr => d_has_right_measures T C_height_above C_in_balance C_size_above hr))
theorem sc_back : FnScope ["make"] ["make"] (defScope s_back) := ⟨rfl,rfl,rfl,by decide +kernel,rfl,by decide +kernel,by decide +kernel⟩
theorem d_back (T : TX K mg base) (hr : Room 0 (A.deeper (envOfC "back" (defScope s_back) s.heap.objs.size f cdv))) :
   FSs (cxOf CX0 P w K mg base ["make"] "back" (defScope s_back) f cdv A outer s H E).nox (defBody s_back) c_back := by
 have nd := sc_back.nd
 exact (fss_cons (fs_if (fb_is (fe_v 0) fe_non) (fss_one (fs_ret fe_non)) fss_nil) (fss_one (fs_ret (fe_ix (fe_v 0) (fe_gi T.i_BACK)))))
theorem kk_back (T : TX K mg base) : Cal P w K mg base 1 "back" g_back := (T.f_back.cal sc_back (fun _ _ _ _ _ _ => ls1 fun _ => rfl) (fun f cdv A outer s H E hr => d_back T  hr))
theorem sc_backward_sum : FnScope ["add", "left", "thing", "right", "result"] ["add", "left", "thing", "right"] (defScope s_backward_sum) := ⟨rfl,rfl,rfl,by decide +kernel,rfl,by decide +kernel,by decide +kernel⟩
theorem d_backward_sum (T : TX K mg base) (C_back : Cal P w K mg base 1 "back" g_back) (hft : ∀ x g,ft x = some g → Cal P w K mg base 1 x g) (hlt : ∀ t g,lamt t = some g → LCal P w K mg base 1 t g) (hr : Room 1 (A.deeper (envOfC "backward_sum" (defScope s_backward_sum) s.heap.objs.size f cdv))) :
   FSs (cxOf CX0 P w K mg base ["add", "left", "thing", "right", "result"] "backward_sum" (defScope s_backward_sum) f cdv A outer s H E).nox (defBody s_backward_sum) c_backward_sum := by
 have nd := sc_backward_sum.nd
 exact (fss_cons (fs_set 4 (fe_v 2) nd) (fss_cons (fs_if (fb_isNot (fe_v 3) fe_non) (fss_one (fs_set 4 (fe_callW hft hlt (hr.mono (by decide)) (fe_v 0) (fa_cons (fe_call C_back (hr.mono (by decide)) (fa_cons (fe_v 3) fa_nil)) (fa_cons (fe_v 4) fa_nil))) nd)) fss_nil) (fss_cons (fs_if (fb_isNot (fe_v 1) fe_non) (fss_one (fs_set 4 (fe_callW hft hlt (hr.mono (by decide)) (fe_v 0) (fa_cons (fe_v 4) (fa_cons (fe_call C_back (hr.mono (by decide)) (fa_cons (fe_v 1) fa_nil)) fa_nil))) nd)) fss_nil) (fss_one (fs_ret (fe_v 4))))))
theorem kk_backward_sum (T : TX K mg base) (C_back : Cal P w K mg base 1 "back" g_back) (hft : ∀ x g,ft x = some g → Cal P w K mg base 1 x g) (hlt : ∀ t g,lamt t = some g → LCal P w K mg base 1 t g) : Cal P w K mg base 2 "backward_sum" g_backward_sum := (T.f_backward_sum.cal sc_backward_sum (fun _ _ _ _ _ _ => ls4 fun _ _ _ _ => rfl) (fun f cdv A outer s H E hr => d_backward_sum T C_back hft hlt hr))
theorem sc_total : FnScope ["make"] ["make"] (defScope s_total) := ⟨rfl,rfl,rfl,by decide +kernel,rfl,by decide +kernel,by decide +kernel⟩
theorem d_total (T : TX K mg base) (hr : Room 0 (A.deeper (envOfC "total" (defScope s_total) s.heap.objs.size f cdv))) :
   FSs (cxOf CX0 P w K mg base ["make"] "total" (defScope s_total) f cdv A outer s H E).nox (defBody s_total) c_total := by
 have nd := sc_total.nd
 exact (fss_cons (fs_if (fb_is (fe_v 0) fe_non) (fss_one (fs_ret fe_non)) fss_nil) (fss_one (fs_ret (fe_ix (fe_v 0) (fe_gi T.i_TOTAL)))))
theorem kk_total (T : TX K mg base) : Cal P w K mg base 1 "total" g_total := (T.f_total.cal sc_total (fun _ _ _ _ _ _ => ls1 fun _ => rfl) (fun f cdv A outer s H E hr => d_total T  hr))
theorem sc_onward_sum : FnScope ["add", "left", "thing", "right", "result"] ["add", "left", "thing", "right"] (defScope s_onward_sum) := ⟨rfl,rfl,rfl,by decide +kernel,rfl,by decide +kernel,by decide +kernel⟩
theorem d_onward_sum (T : TX K mg base) (C_total : Cal P w K mg base 1 "total" g_total) (hft : ∀ x g,ft x = some g → Cal P w K mg base 1 x g) (hlt : ∀ t g,lamt t = some g → LCal P w K mg base 1 t g) (hr : Room 1 (A.deeper (envOfC "onward_sum" (defScope s_onward_sum) s.heap.objs.size f cdv))) :
   FSs (cxOf CX0 P w K mg base ["add", "left", "thing", "right", "result"] "onward_sum" (defScope s_onward_sum) f cdv A outer s H E).nox (defBody s_onward_sum) c_onward_sum := by
 have nd := sc_onward_sum.nd
 exact (fss_cons (fs_set 4 (fe_v 2) nd) (fss_cons (fs_if (fb_isNot (fe_v 1) fe_non) (fss_one (fs_set 4 (fe_callW hft hlt (hr.mono (by decide)) (fe_v 0) (fa_cons (fe_call C_total (hr.mono (by decide)) (fa_cons (fe_v 1) fa_nil)) (fa_cons (fe_v 4) fa_nil))) nd)) fss_nil) (fss_cons (fs_if (fb_isNot (fe_v 3) fe_non) (fss_one (fs_set 4 (fe_callW hft hlt (hr.mono (by decide)) (fe_v 0) (fa_cons (fe_v 4) (fa_cons (fe_call C_total (hr.mono (by decide)) (fa_cons (fe_v 3) fa_nil)) fa_nil))) nd)) fss_nil) (fss_one (fs_ret (fe_v 4))))))
theorem kk_onward_sum (T : TX K mg base) (C_total : Cal P w K mg base 1 "total" g_total) (hft : ∀ x g,ft x = some g → Cal P w K mg base 1 x g) (hlt : ∀ t g,lamt t = some g → LCal P w K mg base 1 t g) : Cal P w K mg base 2 "onward_sum" g_onward_sum := (T.f_onward_sum.cal sc_onward_sum (fun _ _ _ _ _ _ => ls4 fun _ _ _ _ => rfl) (fun f cdv A outer s H E hr => d_onward_sum T C_total hft hlt hr))
theorem sc_sums_above : FnScope ["add", "left", "thing", "right"] ["add", "left", "thing", "right"] (defScope s_sums_above) := ⟨rfl,rfl,rfl,by decide +kernel,rfl,by decide +kernel,by decide +kernel⟩
theorem d_sums_above (T : TX K mg base) (C_backward_sum : Cal P w K mg base 2 "backward_sum" g_backward_sum) (C_onward_sum : Cal P w K mg base 2 "onward_sum" g_onward_sum) (hr : Room 2 (A.deeper (envOfC "sums_above" (defScope s_sums_above) s.heap.objs.size f cdv))) :
   FSs (cxOf CX0 P w K mg base ["add", "left", "thing", "right"] "sums_above" (defScope s_sums_above) f cdv A outer s H E).nox (defBody s_sums_above) c_sums_above := by
 have nd := sc_sums_above.nd
 exact (fss_cons (fs_if (fb_is (fe_v 0) fe_non) (fss_one (fs_ret (fe_tup (fa_cons fe_non (fa_cons fe_non fa_nil))))) fss_nil) (fss_one (fs_ret (fe_tup (fa_cons (fe_call C_onward_sum (hr.mono (by decide)) (fa_cons (fe_v 0) (fa_cons (fe_v 1) (fa_cons (fe_v 2) (fa_cons (fe_v 3) fa_nil))))) (fa_cons (fe_call C_backward_sum (hr.mono (by decide)) (fa_cons (fe_v 0) (fa_cons (fe_v 1) (fa_cons (fe_v 2) (fa_cons (fe_v 3) fa_nil))))) fa_nil))))))
theorem kk_sums_above (T : TX K mg base) (C_backward_sum : Cal P w K mg base 2 "backward_sum" g_backward_sum) (C_onward_sum : Cal P w K mg base 2 "onward_sum" g_onward_sum) : Cal P w K mg base 3 "sums_above" g_sums_above := (T.f_sums_above.cal sc_sums_above (fun _ _ _ _ _ _ => ls4 fun _ _ _ _ => rfl) (fun f cdv A outer s H E hr => d_sums_above T C_backward_sum C_onward_sum hr))
theorem sc_has_right_sums : FnScope ["make", "add", "asked"] ["make", "add"] (defScope s_has_right_sums) := ⟨rfl,rfl,rfl,by decide +kernel,rfl,by decide +kernel,by decide +kernel⟩
theorem d_has_right_sums (T : TX K mg base) (C_sums_above : Cal P w K mg base 3 "sums_above" g_sums_above) (hr : Room 3 (A.deeper (envOfC "has_right_sums" (defScope s_has_right_sums) s.heap.objs.size f cdv))) :
   FSs (cxOf CX0 P w K mg base ["make", "add", "asked"] "has_right_sums" (defScope s_has_right_sums) f cdv A outer s H E).nox (defBody s_has_right_sums) c_has_right_sums := by
 have nd := sc_has_right_sums.nd
 exact (fss_cons (fs_set 2 (fe_call C_sums_above (hr.mono (by decide)) (fa_cons (fe_v 1) (fa_cons (fe_ix (fe_v 0) (fe_gi T.i_LEFT)) (fa_cons (fe_ix (fe_v 0) (fe_gi T.i_THING)) (fa_cons (fe_ix (fe_v 0) (fe_gi T.i_RIGHT)) fa_nil))))) nd) (fss_cons (fs_if (fb_val (fe_ix (fe_v 0) (fe_gi T.i_ABOUT))) (fss_one (fs_ret (fe_and (fe_eq hr (fe_ix (fe_v 0) (fe_gi T.i_TOTAL)) (fe_ix (fe_v 2) fe_int)) (fe_one (fe_eq hr (fe_ix (fe_v 0) (fe_gi T.i_BACK)) (fe_ix (fe_v 2) fe_int)))))) fss_nil) (fss_one (fs_ret (fe_and (fe_eq hr (fe_ix (fe_v 0) (fe_gi T.i_TOTAL)) (fe_ix (fe_v 2) fe_int)) (fe_one (fe_eq hr (fe_ix (fe_v 0) (fe_gi T.i_BACK)) (fe_ix (fe_v 2) fe_int))))))))
theorem kk_has_right_sums (T : TX K mg base) (C_sums_above : Cal P w K mg base 3 "sums_above" g_sums_above) : Cal P w K mg base 4 "has_right_sums" g_has_right_sums := (T.f_has_right_sums.cal sc_has_right_sums (fun _ _ _ _ _ _ => ls2 fun _ _ => rfl) (fun f cdv A outer s H E hr => d_has_right_sums T C_sums_above hr))
theorem sc_is_right : FnScope ["make", "add"] ["make", "add"] (defScope s_is_right) := ⟨rfl,rfl,rfl,by decide +kernel,rfl,by decide +kernel,by decide +kernel⟩
theorem d_is_right (T : TX K mg base) (C_has_form : Cal P w K mg base 2 "has_form" g_has_form) (C_has_right_measures : Cal P w K mg base 3 "has_right_measures" g_has_right_measures) (C_has_right_sums : Cal P w K mg base 4 "has_right_sums" g_has_right_sums) {self : G} {n : Nat} (hself : Cal P w K mg base (5 + n) "is_right" self) (hr0 : Room (5 + n) (A.deeper (envOfC "is_right" (defScope s_is_right) s.heap.objs.size f cdv))) :
   FSs (cxOf CX0 P w K mg base ["make", "add"] "is_right" (defScope s_is_right) f cdv A outer s H E).nox (defBody s_is_right) (c_is_right self) := by
 have nd := sc_is_right.nd
 have hr := hr0.mono (Nat.le_add_right 5 n)
 exact (fss_cons (fs_if (fb_is (fe_v 0) fe_non) (fss_one (fs_ret fe_bl)) fss_nil) (fss_cons (fs_if (fb_not (fb_val (fe_call C_has_form (hr.mono (by decide)) (fa_cons (fe_v 0) fa_nil)))) (fss_one (fs_ret fe_bl)) fss_nil) (fss_cons (fs_if (fb_w (fw_or (fb_not (fb_val (fe_call hself hr0 (fa_cons (fe_ix (fe_v 0) (fe_gi T.i_LEFT)) (fa_cons (fe_v 1) fa_nil))))) (fw_or1 (fb_not (fb_val (fe_call hself hr0 (fa_cons (fe_ix (fe_v 0) (fe_gi T.i_RIGHT)) (fa_cons (fe_v 1) fa_nil)))))))) (fss_one (fs_ret fe_bl)) fss_nil) (fss_one (fs_ret (fe_and (fe_call C_has_right_measures (hr.mono (by decide)) (fa_cons (fe_v 0) fa_nil)) (fe_one (fe_call C_has_right_sums (hr.mono (by decide)) (fa_cons (fe_v 0) (fa_cons (fe_v 1) fa_nil))))))))))
theorem kk_is_right (T : TX K mg base) (C_has_form : Cal P w K mg base 2 "has_form" g_has_form) (C_has_right_measures : Cal P w K mg base 3 "has_right_measures" g_has_right_measures) (C_has_right_sums : Cal P w K mg base 4 "has_right_sums" g_has_right_sums) : ∀ n : Nat,Cal P w K mg base (5 + n) "is_right" (g_is_right n)
 | 0 => T.f_is_right.none1 (ps := ["make", "add"]) (fun _ _ _ _ _ _ _ => ls2 fun _ _ => ⟨_,rfl,rfl⟩)
 | n + 1 => T.f_is_right.cal1 sc_is_right (fun _ _ _ _ _ _ _ => ls2 fun _ _ => ⟨_,rfl,rfl⟩) (fun f cdv A outer s H E hr => d_is_right T C_has_form C_has_right_measures C_has_right_sums (kk_is_right T C_has_form C_has_right_measures C_has_right_sums n) hr)
theorem kd_is_right (T : TX K mg base) (C_has_form : Cal P w K mg base 2 "has_form" g_has_form) (C_has_right_measures : Cal P w K mg base 3 "has_right_measures" g_has_right_measures) (C_has_right_sums : Cal P w K mg base 4 "has_right_sums" g_has_right_sums) : ∀ n : Nat,Cal P w K mg base (5 + n) "is_right" (dflt 1 (g_is_right n))
 | 0 => T.f_is_right.none1d (ps := ["make", "add"]) rfl (fun _ _ _ _ _ _ _ => ls1 fun _ => ⟨_,rfl,rfl⟩)
 | n + 1 => T.f_is_right.cal1d sc_is_right rfl (fun _ _ _ _ _ _ _ => ls1 fun _ => ⟨_,rfl,rfl⟩) (fun f cdv A outer s H E hr => d_is_right T C_has_form C_has_right_measures C_has_right_sums (kk_is_right T C_has_form C_has_right_measures C_has_right_sums n) hr)
theorem sc__law_right : FnScope ["_law_makes", "_law_before", "_law_make", "_law_some", "_law_k"] ["_law_makes", "_law_before"] (defScope s__law_right) := ⟨rfl,rfl,rfl,by decide +kernel,rfl,by decide +kernel,by decide +kernel⟩
theorem d__law_right (T : TX K mg base) (C_is_right_d : Cal P w K mg base (5 + 40) "is_right" (dflt 1 (g_is_right 40))) (C_things_of : Cal P w K mg base 43 "things_of" g_things_of) (hft : ∀ x g,ft x = some g → Cal P w K mg base 1 x g) (hlt : ∀ t g,lamt t = some g → LCal P w K mg base 1 t g) (hct : ∀ t g,clot t = some g → CCal P w K mg base 2 t g) (hr : Room 45 (A.deeper (envOfC "_law_right" (defScope s__law_right) s.heap.objs.size f cdv))) :
   FSs (cxOf CX0 P w K mg base ["_law_makes", "_law_before", "_law_make", "_law_some", "_law_k"] "_law_right" (defScope s__law_right) f cdv A outer s H E).nox (defBody s__law_right) c__law_right := by
 have nd := sc__law_right.nd
 exact (fss_cons (fs_alt (isLst (eV 0)) (fs_forL 2 nd (fe_v 0) (fss_cons (fs_set 3 (fe_call C_things_of (hr.mono (by decide)) (fa_cons (fe_v 2) fa_nil)) nd) (fss_cons (fs_if (fb_not (fb_val (fe_call C_is_right_d (hr.mono (by decide)) (fa_cons (fe_v 2) fa_nil)))) (fss_one (fs_ret fe_bl)) fss_nil) (fss_one (fs_forR2 4 nd T.b_range fe_int (fe_len T.b_len (fa_cons (fe_v 3) fa_nil)) (fss_one (fs_if (fb_not (fb_val (fe_callX (fun x g e => (hft x g e).mono (by decide)) (fun t g e => (hlt t g e).mono (by decide)) hct (hr.mono (by decide)) (fe_v 1) (fa_cons (fe_ix (fe_v 3) (fe_sub (fe_v 4) fe_int)) (fa_cons (fe_ix (fe_v 3) (fe_v 4)) fa_nil))))) (fss_one (fs_ret fe_bl)) fss_nil)) PassesOwn.never)))) PassesOwn.never) (fs_forO 2 nd (fe_v 0) (fss_cons (fs_set 3 (fe_call C_things_of (hr.mono (by decide)) (fa_cons (fe_v 2) fa_nil)) nd) (fss_cons (fs_if (fb_not (fb_val (fe_call C_is_right_d (hr.mono (by decide)) (fa_cons (fe_v 2) fa_nil)))) (fss_one (fs_ret fe_bl)) fss_nil) (fss_one (fs_forR2 4 nd T.b_range fe_int (fe_len T.b_len (fa_cons (fe_v 3) fa_nil)) (fss_one (fs_if (fb_not (fb_val (fe_callX (fun x g e => (hft x g e).mono (by decide)) (fun t g e => (hlt t g e).mono (by decide)) hct (hr.mono (by decide)) (fe_v 1) (fa_cons (fe_ix (fe_v 3) (fe_sub (fe_v 4) fe_int)) (fa_cons (fe_ix (fe_v 3) (fe_v 4)) fa_nil))))) (fss_one (fs_ret fe_bl)) fss_nil)) PassesOwn.never)))) PassesOwn.never)) (fss_one (fs_ret fe_bl)))
theorem kk__law_right (T : TX K mg base) (C_is_right_d : Cal P w K mg base (5 + 40) "is_right" (dflt 1 (g_is_right 40))) (C_things_of : Cal P w K mg base 43 "things_of" g_things_of) (hft : ∀ x g,ft x = some g → Cal P w K mg base 1 x g) (hlt : ∀ t g,lamt t = some g → LCal P w K mg base 1 t g) (hct : ∀ t g,clot t = some g → CCal P w K mg base 2 t g) : Cal P w K mg base 46 "_law_right" g__law_right := (T.f__law_right.cal sc__law_right (fun _ _ _ _ _ _ => ls2 fun _ _ => rfl) (fun f cdv A outer s H E hr => d__law_right T C_is_right_d C_things_of hft hlt hct hr))
theorem sc__law_thing : FnScope ["_law_kind", "_law_cell_here", "_law_text", "_law_k"] ["_law_kind", "_law_cell_here"] (defScope s__law_thing) := ⟨rfl,rfl,rfl,by decide +kernel,rfl,by decide +kernel,by decide +kernel⟩
theorem d__law_thing (T : TX K mg base) (hr : Room 0 (A.deeper (envOfC "_law_thing" (defScope s__law_thing) s.heap.objs.size f cdv))) :
   FSs (cxOf CX0 P w K mg base ["_law_kind", "_law_cell_here", "_law_text", "_law_k"] "_law_thing" (defScope s__law_thing) f cdv A outer s H E).nox (defBody s__law_thing) c__law_thing := by
 have nd := sc__law_thing.nd
 exact (fss_cons (fs_if (fb_lt (fe_v 0) fe_int) (fss_one (fs_ret (fe_sub (fe_mod (fe_div (fe_v 1) fe_int) fe_int) fe_int))) fss_nil) (fss_cons (fs_set 2 fe_str nd) (fss_cons (fs_forR 3 nd T.b_range (fe_add fe_int (fe_mod (fe_v 1) fe_int)) (fss_one (fs_set 2 (fe_add (fe_v 2) (fe_ix fe_str (fe_mod (fe_div (fe_v 1) (fe_ix (fe_tup (fa_cons fe_int (fa_cons fe_int (fa_cons fe_int fa_nil)))) (fe_v 3))) fe_int))) nd)) PassesOwn.never) (fss_one (fs_ret (fe_v 2))))))
theorem kk__law_thing (T : TX K mg base) : Cal P w K mg base 1 "_law_thing" g__law_thing := (T.f__law_thing.cal sc__law_thing (fun _ _ _ _ _ _ => ls2 fun _ _ => rfl) (fun f cdv A outer s H E hr => d__law_thing T  hr))
theorem sc_check_place : FnScope ["place", "end"] ["place", "end"] (defScope s_check_place) := ⟨rfl,rfl,rfl,by decide +kernel,rfl,by decide +kernel,by decide +kernel⟩
theorem d_check_place (T : TX K mg base) (hr : Room 0 (A.deeper (envOfC "check_place" (defScope s_check_place) s.heap.objs.size f cdv))) :
   FSs (cxOf CX0 P w K mg base ["place", "end"] "check_place" (defScope s_check_place) f cdv A outer s H E).nox (defBody s_check_place) c_check_place := by
 have nd := sc_check_place.nd
 exact (fss_one (fs_if (fb_not (fb_leLt fe_int (fe_v 0) (fe_v 1))) (fss_one fs_never) fss_nil))
theorem kk_check_place (T : TX K mg base) : Cal P w K mg base 1 "check_place" g_check_place := (T.f_check_place.cal sc_check_place (fun _ _ _ _ _ _ => ls2 fun _ _ => rfl) (fun f cdv A outer s H E hr => d_check_place T  hr))
theorem sc_thing_at : FnScope ["make", "turned", "place", "row", "middle"] ["make", "turned", "place"] (defScope s_thing_at) := ⟨rfl,rfl,rfl,by decide +kernel,rfl,by decide +kernel,by decide +kernel⟩
theorem d_thing_at (T : TX K mg base) (C_seen : Cal P w K mg base 1 "seen" g_seen) (C_size : Cal P w K mg base 1 "size" g_size) {self : G} {n : Nat} (hself : Cal P w K mg base (2 + n) "thing_at" self) (hr0 : Room (2 + n) (A.deeper (envOfC "thing_at" (defScope s_thing_at) s.heap.objs.size f cdv))) :
   FSs (cxOf CX0 P w K mg base ["make", "turned", "place", "row", "middle"] "thing_at" (defScope s_thing_at) f cdv A outer s H E).nox (defBody s_thing_at) (c_thing_at self) := by
 have nd := sc_thing_at.nd
 have hr := hr0.mono (Nat.le_add_right 2 n)
 exact (fss_cons (fs_set 3 (fe_call C_seen (hr.mono (by decide)) (fa_cons (fe_v 0) (fa_cons (fe_v 1) fa_nil))) nd) (fss_cons (fs_set 4 (fe_call C_size (hr.mono (by decide)) (fa_cons (fe_ix (fe_v 3) (fe_gi T.i_AHEAD)) fa_nil)) nd) (fss_cons (fs_if (fb_lt (fe_v 2) (fe_v 4)) (fss_one (fs_ret (fe_call hself hr0 (fa_cons (fe_ix (fe_v 3) (fe_gi T.i_AHEAD)) (fa_cons (fe_ix (fe_v 3) (fe_gi T.i_TURNED)) (fa_cons (fe_v 2) fa_nil)))))) fss_nil) (fss_cons (fs_if (fb_gt (fe_v 2) (fe_v 4)) (fss_one (fs_ret (fe_call hself hr0 (fa_cons (fe_ix (fe_v 3) (fe_gi T.i_BEHIND)) (fa_cons (fe_ix (fe_v 3) (fe_gi T.i_TURNED)) (fa_cons (fe_sub (fe_sub (fe_v 2) (fe_v 4)) fe_int) fa_nil)))))) fss_nil) (fss_one (fs_ret (fe_ix (fe_v 3) (fe_gi T.i_MIDDLE))))))))
theorem kk_thing_at (T : TX K mg base) (C_seen : Cal P w K mg base 1 "seen" g_seen) (C_size : Cal P w K mg base 1 "size" g_size) : ∀ n : Nat,Cal P w K mg base (2 + n) "thing_at" (g_thing_at n)
 | 0 => T.f_thing_at.none0 (ps := ["make", "turned", "place"]) (fun _ _ _ _ _ _ => ls3 fun _ _ _ => rfl)
 | n + 1 => T.f_thing_at.cal sc_thing_at (fun _ _ _ _ _ _ => ls3 fun _ _ _ => rfl) (fun f cdv A outer s H E hr => d_thing_at T C_seen C_size (kk_thing_at T C_seen C_size n) hr)
theorem sc_at : FnScope ["make", "place"] ["make", "place"] (defScope s_at) := ⟨rfl,rfl,rfl,by decide +kernel,rfl,by decide +kernel,by decide +kernel⟩
theorem d_at (T : TX K mg base) (C_check_place : Cal P w K mg base 1 "check_place" g_check_place) (C_size : Cal P w K mg base 1 "size" g_size) (C_thing_at : Cal P w K mg base (2 + 40) "thing_at" (g_thing_at 40)) (hr : Room 42 (A.deeper (envOfC "at" (defScope s_at) s.heap.objs.size f cdv))) :
   FSs (cxOf CX0 P w K mg base ["make", "place"] "at" (defScope s_at) f cdv A outer s H E).nox (defBody s_at) c_at := by
 have nd := sc_at.nd
 exact (fss_cons (fs_expr (fe_call C_check_place (hr.mono (by decide)) (fa_cons (fe_v 1) (fa_cons (fe_call C_size (hr.mono (by decide)) (fa_cons (fe_v 0) fa_nil)) fa_nil)))) (fss_one (fs_ret (fe_call C_thing_at (hr.mono (by decide)) (fa_cons (fe_v 0) (fa_cons fe_bl (fa_cons (fe_v 1) fa_nil)))))))
theorem kk_at (T : TX K mg base) (C_check_place : Cal P w K mg base 1 "check_place" g_check_place) (C_size : Cal P w K mg base 1 "size" g_size) (C_thing_at : Cal P w K mg base (2 + 40) "thing_at" (g_thing_at 40)) : Cal P w K mg base 43 "at" g_at := (T.f_at.cal sc_at (fun _ _ _ _ _ _ => ls2 fun _ _ => rfl) (fun f cdv A outer s H E hr => d_at T C_check_place C_size C_thing_at hr))
theorem sc_is_alike_at : FnScope ["make", "place", "thing", "before"] ["make", "place", "thing", "before"] (defScope s_is_alike_at) := ⟨rfl,rfl,rfl,by decide +kernel,rfl,by decide +kernel,by decide +kernel⟩
theorem d_is_alike_at (T : TX K mg base) (C_at : Cal P w K mg base 43 "at" g_at) (C_size : Cal P w K mg base 1 "size" g_size) (hft : ∀ x g,ft x = some g → Cal P w K mg base 1 x g) (hlt : ∀ t g,lamt t = some g → LCal P w K mg base 1 t g) (hct : ∀ t g,clot t = some g → CCal P w K mg base 2 t g) (hr : Room 43 (A.deeper (envOfC "is_alike_at" (defScope s_is_alike_at) s.heap.objs.size f cdv))) :
   FSs (cxOf CX0 P w K mg base ["make", "place", "thing", "before"] "is_alike_at" (defScope s_is_alike_at) f cdv A outer s H E).nox (defBody s_is_alike_at) c_is_alike_at := by
 have nd := sc_is_alike_at.nd
 exact (fss_one (fs_ret (fe_and (fe_lt (fe_v 1) (fe_call C_size (hr.mono (by decide)) (fa_cons (fe_v 0) fa_nil))) (fe_one (fe_not (fe_callX (fun x g e => (hft x g e).mono (by decide)) (fun t g e => (hlt t g e).mono (by decide)) hct (hr.mono (by decide)) (fe_v 3) (fa_cons (fe_v 2) (fa_cons (fe_call C_at (hr.mono (by decide)) (fa_cons (fe_v 0) (fa_cons (fe_v 1) fa_nil))) fa_nil))))))))
theorem kk_is_alike_at (T : TX K mg base) (C_at : Cal P w K mg base 43 "at" g_at) (C_size : Cal P w K mg base 1 "size" g_size) (hft : ∀ x g,ft x = some g → Cal P w K mg base 1 x g) (hlt : ∀ t g,lamt t = some g → LCal P w K mg base 1 t g) (hct : ∀ t g,clot t = some g → CCal P w K mg base 2 t g) : Cal P w K mg base 44 "is_alike_at" g_is_alike_at := (T.f_is_alike_at.cal sc_is_alike_at (fun _ _ _ _ _ _ => ls4 fun _ _ _ _ => rfl) (fun f cdv A outer s H E hr => d_is_alike_at T C_at C_size hft hlt hct hr))
theorem sc_count_before : FnScope ["make", "turned", "thing", "before", "row"] ["make", "turned", "thing", "before"] (defScope s_count_before) := ⟨rfl,rfl,rfl,by decide +kernel,rfl,by decide +kernel,by decide +kernel⟩
theorem d_count_before (T : TX K mg base) (C_seen : Cal P w K mg base 1 "seen" g_seen) (C_size : Cal P w K mg base 1 "size" g_size) (hft : ∀ x g,ft x = some g → Cal P w K mg base 1 x g) (hlt : ∀ t g,lamt t = some g → LCal P w K mg base 1 t g) (hct : ∀ t g,clot t = some g → CCal P w K mg base 2 t g) {self : G} {n : Nat} (hself : Cal P w K mg base (3 + n) "count_before" self) (hr0 : Room (3 + n) (A.deeper (envOfC "count_before" (defScope s_count_before) s.heap.objs.size f cdv))) :
   FSs (cxOf CX0 P w K mg base ["make", "turned", "thing", "before", "row"] "count_before" (defScope s_count_before) f cdv A outer s H E).nox (defBody s_count_before) (c_count_before self) := by
 have nd := sc_count_before.nd
 have hr := hr0.mono (Nat.le_add_right 3 n)
 exact (fss_cons (fs_if (fb_is (fe_v 0) fe_non) (fss_one (fs_ret fe_int)) fss_nil) (fss_cons (fs_set 4 (fe_call C_seen (hr.mono (by decide)) (fa_cons (fe_v 0) (fa_cons (fe_v 1) fa_nil))) nd) (fss_cons (fs_if (fb_val (fe_callX (fun x g e => (hft x g e).mono (by decide)) (fun t g e => (hlt t g e).mono (by decide)) hct (hr.mono (by decide)) (fe_v 3) (fa_cons (fe_ix (fe_v 4) (fe_gi T.i_MIDDLE)) (fa_cons (fe_v 2) fa_nil)))) (fss_one (fs_ret (fe_add (fe_add (fe_call C_size (hr.mono (by decide)) (fa_cons (fe_ix (fe_v 4) (fe_gi T.i_AHEAD)) fa_nil)) fe_int) (fe_call hself hr0 (fa_cons (fe_ix (fe_v 4) (fe_gi T.i_BEHIND)) (fa_cons (fe_ix (fe_v 4) (fe_gi T.i_TURNED)) (fa_cons (fe_v 2) (fa_cons (fe_v 3) fa_nil)))))))) fss_nil) (fss_one (fs_ret (fe_call hself hr0 (fa_cons (fe_ix (fe_v 4) (fe_gi T.i_AHEAD)) (fa_cons (fe_ix (fe_v 4) (fe_gi T.i_TURNED)) (fa_cons (fe_v 2) (fa_cons (fe_v 3) fa_nil))))))))))
theorem kk_count_before (T : TX K mg base) (C_seen : Cal P w K mg base 1 "seen" g_seen) (C_size : Cal P w K mg base 1 "size" g_size) (hft : ∀ x g,ft x = some g → Cal P w K mg base 1 x g) (hlt : ∀ t g,lamt t = some g → LCal P w K mg base 1 t g) (hct : ∀ t g,clot t = some g → CCal P w K mg base 2 t g) : ∀ n : Nat,Cal P w K mg base (3 + n) "count_before" (g_count_before n)
 | 0 => T.f_count_before.none0 (ps := ["make", "turned", "thing", "before"]) (fun _ _ _ _ _ _ => ls4 fun _ _ _ _ => rfl)
 | n + 1 => T.f_count_before.cal sc_count_before (fun _ _ _ _ _ _ => ls4 fun _ _ _ _ => rfl) (fun f cdv A outer s H E hr => d_count_before T C_seen C_size hft hlt hct (kk_count_before T C_seen C_size hft hlt hct n) hr)
theorem sc_place_of : FnScope ["make", "thing", "before"] ["make", "thing", "before"] (defScope s_place_of) := ⟨rfl,rfl,rfl,by decide +kernel,rfl,by decide +kernel,by decide +kernel⟩
theorem d_place_of (T : TX K mg base) (C_count_before : Cal P w K mg base (3 + 40) "count_before" (g_count_before 40)) (hr : Room 43 (A.deeper (envOfC "place_of" (defScope s_place_of) s.heap.objs.size f cdv))) :
   FSs (cxOf CX0 P w K mg base ["make", "thing", "before"] "place_of" (defScope s_place_of) f cdv A outer s H E).nox (defBody s_place_of) c_place_of := by
 have nd := sc_place_of.nd
 exact (fss_one (fs_ret (fe_call C_count_before (hr.mono (by decide)) (fa_cons (fe_v 0) (fa_cons fe_bl (fa_cons (fe_v 1) (fa_cons (fe_v 2) fa_nil)))))))
theorem kk_place_of (T : TX K mg base) (C_count_before : Cal P w K mg base (3 + 40) "count_before" (g_count_before 40)) : Cal P w K mg base 44 "place_of" g_place_of := (T.f_place_of.cal sc_place_of (fun _ _ _ _ _ _ => ls3 fun _ _ _ => rfl) (fun f cdv A outer s H E hr => d_place_of T C_count_before hr))
theorem sc_has : FnScope ["make", "thing", "before"] ["make", "thing", "before"] (defScope s_has) := ⟨rfl,rfl,rfl,by decide +kernel,rfl,by decide +kernel,by decide +kernel⟩
theorem d_has (T : TX K mg base) (C_is_alike_at : Cal P w K mg base 44 "is_alike_at" g_is_alike_at) (C_place_of : Cal P w K mg base 44 "place_of" g_place_of) (hr : Room 44 (A.deeper (envOfC "has" (defScope s_has) s.heap.objs.size f cdv))) :
   FSs (cxOf CX0 P w K mg base ["make", "thing", "before"] "has" (defScope s_has) f cdv A outer s H E).nox (defBody s_has) c_has := by
 have nd := sc_has.nd
 exact (fss_one (fs_ret (fe_call C_is_alike_at (hr.mono (by decide)) (fa_cons (fe_v 0) (fa_cons (fe_call C_place_of (hr.mono (by decide)) (fa_cons (fe_v 0) (fa_cons (fe_v 1) (fa_cons (fe_v 2) fa_nil)))) (fa_cons (fe_v 1) (fa_cons (fe_v 2) fa_nil)))))))
theorem kk_has (T : TX K mg base) (C_is_alike_at : Cal P w K mg base 44 "is_alike_at" g_is_alike_at) (C_place_of : Cal P w K mg base 44 "place_of" g_place_of) : Cal P w K mg base 45 "has" g_has := (T.f_has.cal sc_has (fun _ _ _ _ _ _ => ls3 fun _ _ _ => rfl) (fun f cdv A outer s H E hr => d_has T C_is_alike_at C_place_of hr))
theorem sc_Wood_numbered : FnScope ["self", "rest", "number"] ["self", "rest"] (defScope s_Wood_numbered) := ⟨rfl,rfl,rfl,by decide +kernel,rfl,by decide +kernel,by decide +kernel⟩
theorem d_Wood_numbered (T : TX K mg base) (hr : Room 0 (A.deeper (envOfC "Wood.numbered" (defScope s_Wood_numbered) s.heap.objs.size f cdv))) :
   FSs (cxOf CX0 P w K mg base ["self", "rest", "number"] "Wood.numbered" (defScope s_Wood_numbered) f cdv A outer s H E).nox (defBody s_Wood_numbered) c_Wood_numbered := by
 have nd := sc_Wood_numbered.nd
 exact (fss_cons (fs_set 2 (fe_fld T.w_Wood_nodes_made (fe_v 0)) nd) (fss_cons (fs_fld T.w_Wood_nodes_made (fe_v 0) (fe_add (fe_v 2) fe_int)) (fss_one (fs_ret (fe_add (fe_tup (fa_cons (fe_v 2) fa_nil)) (fe_v 1))))))
theorem kk_Wood_numbered (T : TX K mg base) : Mth P w K mg base 1 "Wood" "numbered" g_Wood_numbered := T.f_Wood_numbered.mth sc_Wood_numbered (fun _ _ _ _ _ _ => ls2 fun _ _ => rfl) (fun f cdv A outer s H E hr => d_Wood_numbered T  hr)
theorem sc_check_room : FnScope ["things"] ["things"] (defScope s_check_room) := ⟨rfl,rfl,rfl,by decide +kernel,rfl,by decide +kernel,by decide +kernel⟩
theorem d_check_room (T : TX K mg base) (hr : Room 0 (A.deeper (envOfC "check_room" (defScope s_check_room) s.heap.objs.size f cdv))) :
   FSs (cxOf CX0 P w K mg base ["things"] "check_room" (defScope s_check_room) f cdv A outer s H E).nox (defBody s_check_room) c_check_room := by
 have nd := sc_check_room.nd
 exact (fss_one (fs_if (fb_gt (fe_v 0) (fe_gi T.i_MOST_THINGS)) (fss_one fs_never) fss_nil))
theorem kk_check_room (T : TX K mg base) : Cal P w K mg base 1 "check_room" g_check_room := (T.f_check_room.cal sc_check_room (fun _ _ _ _ _ _ => ls1 fun _ => rfl) (fun f cdv A outer s H E hr => d_check_room T  hr))
theorem sc_Wood_node : FnScope ["self", "left", "thing", "right", "things", "measures", "sums"] ["self", "left", "thing", "right"] (defScope s_Wood_node) := ⟨rfl,rfl,rfl,by decide +kernel,rfl,by decide +kernel,by decide +kernel⟩
theorem d_Wood_node (T : TX K mg base) (C_Wood_numbered : Mth P w K mg base 1 "Wood" "numbered" g_Wood_numbered) (C_check_room : Cal P w K mg base 1 "check_room" g_check_room) (C_height_above : Cal P w K mg base 2 "height_above" g_height_above) (C_in_balance : Cal P w K mg base 2 "in_balance" g_in_balance) (C_size_above : Cal P w K mg base 2 "size_above" g_size_above) (C_sums_above : Cal P w K mg base 3 "sums_above" g_sums_above) (hr : Room 3 (A.deeper (envOfC "Wood.node" (defScope s_Wood_node) s.heap.objs.size f cdv))) :
   FSs (cxOf CX0 P w K mg base ["self", "left", "thing", "right", "things", "measures", "sums"] "Wood.node" (defScope s_Wood_node) f cdv A outer s H E).nox (defBody s_Wood_node) c_Wood_node := by
 have nd := sc_Wood_node.nd
 exact (fss_cons (fs_set 4 (fe_call C_size_above (hr.mono (by decide)) (fa_cons (fe_v 1) (fa_cons (fe_v 3) fa_nil))) nd) (fss_cons (fs_expr (fe_call C_check_room (hr.mono (by decide)) (fa_cons (fe_v 4) fa_nil))) (fss_cons (fs_if (fb_not (fb_val (fe_call C_in_balance (hr.mono (by decide)) (fa_cons (fe_v 1) (fa_cons (fe_v 3) fa_nil))))) (fss_one fs_never) fss_nil) (fss_cons (fs_set 5 (fe_tup (fa_cons (fe_v 4) (fa_cons (fe_call C_height_above (hr.mono (by decide)) (fa_cons (fe_v 1) (fa_cons (fe_v 3) fa_nil))) fa_nil))) nd) (fss_cons (fs_set 6 (fe_call C_sums_above (hr.mono (by decide)) (fa_cons (fe_fld T.w_Wood_adding (fe_v 0)) (fa_cons (fe_v 1) (fa_cons (fe_v 2) (fa_cons (fe_v 3) fa_nil))))) nd) (fss_one (fs_ret (fe_meth C_Wood_numbered (hr.mono (by decide)) (fe_v 0) (fa_cons (fe_add (fe_add (fe_tup (fa_cons fe_bl (fa_cons (fe_v 1) (fa_cons (fe_v 2) (fa_cons (fe_v 3) fa_nil))))) (fe_v 5)) (fe_v 6)) fa_nil)))))))))
theorem kk_Wood_node (T : TX K mg base) (C_Wood_numbered : Mth P w K mg base 1 "Wood" "numbered" g_Wood_numbered) (C_check_room : Cal P w K mg base 1 "check_room" g_check_room) (C_height_above : Cal P w K mg base 2 "height_above" g_height_above) (C_in_balance : Cal P w K mg base 2 "in_balance" g_in_balance) (C_size_above : Cal P w K mg base 2 "size_above" g_size_above) (C_sums_above : Cal P w K mg base 3 "sums_above" g_sums_above) : Mth P w K mg base 4 "Wood" "node" g_Wood_node := T.f_Wood_node.mth sc_Wood_node (fun _ _ _ _ _ _ => ls4 fun _ _ _ _ => rfl) (fun f cdv A outer s H E hr => d_Wood_node T C_Wood_numbered C_check_room C_height_above C_in_balance C_size_above C_sums_above hr)
theorem sc_built : FnScope ["wood", "things", "start", "end", "middle", "left", "right"] ["wood", "things", "start", "end"] (defScope s_built) := ⟨rfl,rfl,rfl,by decide +kernel,rfl,by decide +kernel,by decide +kernel⟩
theorem d_built (T : TX K mg base) (C_Wood_node : Mth P w K mg base 4 "Wood" "node" g_Wood_node) {self : G} {n : Nat} (hself : Cal P w K mg base (5 + n) "built" self) (hr0 : Room (5 + n) (A.deeper (envOfC "built" (defScope s_built) s.heap.objs.size f cdv))) :
   FSs (cxOf CX0 P w K mg base ["wood", "things", "start", "end", "middle", "left", "right"] "built" (defScope s_built) f cdv A outer s H E).nox (defBody s_built) (c_built self) := by
 have nd := sc_built.nd
 have hr := hr0.mono (Nat.le_add_right 5 n)
 exact (fss_cons (fs_if (fb_eq hr (fe_v 2) (fe_v 3)) (fss_one (fs_ret fe_non)) fss_nil) (fss_cons (fs_set 4 (fe_div (fe_add (fe_v 2) (fe_v 3)) fe_int) nd) (fss_cons (fs_set 5 (fe_call hself hr0 (fa_cons (fe_v 0) (fa_cons (fe_v 1) (fa_cons (fe_v 2) (fa_cons (fe_v 4) fa_nil))))) nd) (fss_cons (fs_set 6 (fe_call hself hr0 (fa_cons (fe_v 0) (fa_cons (fe_v 1) (fa_cons (fe_add (fe_v 4) fe_int) (fa_cons (fe_v 3) fa_nil))))) nd) (fss_one (fs_ret (fe_meth C_Wood_node (hr.mono (by decide)) (fe_v 0) (fa_cons (fe_v 5) (fa_cons (fe_ix (fe_v 1) (fe_v 4)) (fa_cons (fe_v 6) fa_nil))))))))))
theorem kk_built (T : TX K mg base) (C_Wood_node : Mth P w K mg base 4 "Wood" "node" g_Wood_node) : ∀ n : Nat,Cal P w K mg base (5 + n) "built" (g_built n)
 | 0 => T.f_built.none0 (ps := ["wood", "things", "start", "end"]) (fun _ _ _ _ _ _ => ls4 fun _ _ _ _ => rfl)
 | n + 1 => T.f_built.cal sc_built (fun _ _ _ _ _ _ => ls4 fun _ _ _ _ => rfl) (fun f cdv A outer s H E hr => d_built T C_Wood_node (kk_built T C_Wood_node n) hr)
theorem sc_make_of : FnScope ["wood", "things"] ["wood", "things"] (defScope s_make_of) := ⟨rfl,rfl,rfl,by decide +kernel,rfl,by decide +kernel,by decide +kernel⟩
theorem d_make_of (T : TX K mg base) (C_built : Cal P w K mg base (5 + 40) "built" (g_built 40)) (C_check_room : Cal P w K mg base 1 "check_room" g_check_room) (hr : Room 45 (A.deeper (envOfC "make_of" (defScope s_make_of) s.heap.objs.size f cdv))) :
   FSs (cxOf CX0 P w K mg base ["wood", "things"] "make_of" (defScope s_make_of) f cdv A outer s H E).nox (defBody s_make_of) c_make_of := by
 have nd := sc_make_of.nd
 exact (fss_cons (fs_expr (fe_call C_check_room (hr.mono (by decide)) (fa_cons (fe_len T.b_len (fa_cons (fe_v 1) fa_nil)) fa_nil))) (fss_one (fs_ret (fe_call C_built (hr.mono (by decide)) (fa_cons (fe_v 0) (fa_cons (fe_v 1) (fa_cons fe_int (fa_cons (fe_len T.b_len (fa_cons (fe_v 1) fa_nil)) fa_nil))))))))
theorem kk_make_of (T : TX K mg base) (C_built : Cal P w K mg base (5 + 40) "built" (g_built 40)) (C_check_room : Cal P w K mg base 1 "check_room" g_check_room) : Cal P w K mg base 46 "make_of" g_make_of := (T.f_make_of.cal sc_make_of (fun _ _ _ _ _ _ => ls2 fun _ _ => rfl) (fun f cdv A outer s H E hr => d_make_of T C_built C_check_room hr))
theorem sc_common : FnScope ["wood", "one", "other", "before"] ["wood", "one", "other", "before"] (defScope s_common) := ⟨rfl,rfl,rfl,by decide +kernel,rfl,by decide +kernel,by decide +kernel⟩
theorem d_common (T : TX K mg base) (C_has : Cal P w K mg base 45 "has" g_has) (C_make_of : Cal P w K mg base 46 "make_of" g_make_of) (C_things_of : Cal P w K mg base 43 "things_of" g_things_of) (hr : Room 46 (A.deeper (envOfC "common" (defScope s_common) s.heap.objs.size f cdv))) :
   FSs (cxOf CX0 P w K mg base ["wood", "one", "other", "before"] "common" (defScope s_common) f cdv A outer s H E).nox (defBody s_common) c_common := by
 have nd := sc_common.nd
 exact (fss_one (fs_ret (fe_call C_make_of (hr.mono (by decide)) (fa_cons (fe_v 0) (fa_cons (fe_compL (compOk_mk (x := "thing") (N' := ["before", "other"]) (fr := [3,2]) (by decide +kernel) rfl rfl rfl rfl rfl) (fe_call C_things_of (hr.mono (by decide)) (fa_cons (fe_v 1) fa_nil)) (fun _ _ _ _ => .one (fb_val (fe_call C_has (hr.mono (by decide)) (fa_cons (fe_v 2) (fa_cons (fe_v 0) (fa_cons (fe_v 1) fa_nil)))))) (fun _ _ _ _ => (fe_v 0))) fa_nil)))))
theorem kk_common (T : TX K mg base) (C_has : Cal P w K mg base 45 "has" g_has) (C_make_of : Cal P w K mg base 46 "make_of" g_make_of) (C_things_of : Cal P w K mg base 43 "things_of" g_things_of) : Cal P w K mg base 47 "common" g_common := (T.f_common.cal sc_common (fun _ _ _ _ _ _ => ls4 fun _ _ _ _ => rfl) (fun f cdv A outer s H E hr => d_common T C_has C_make_of C_things_of hr))
theorem sc_merged : FnScope ["ones", "others", "before", "found", "reached", "thing"] ["ones", "others", "before"] (defScope s_merged) := ⟨rfl,rfl,rfl,by decide +kernel,rfl,by decide +kernel,by decide +kernel⟩
theorem d_merged (T : TX K mg base) (hft : ∀ x g,ft x = some g → Cal P w K mg base 1 x g) (hlt : ∀ t g,lamt t = some g → LCal P w K mg base 1 t g) (hct : ∀ t g,clot t = some g → CCal P w K mg base 2 t g) (hr : Room 2 (A.deeper (envOfC "merged" (defScope s_merged) s.heap.objs.size f cdv))) :
   FSs (cxOf CX0 P w K mg base ["ones", "others", "before", "found", "reached", "thing"] "merged" (defScope s_merged) f cdv A outer s H E).nox (defBody s_merged) c_merged := by
 have nd := sc_merged.nd
 exact (fss_cons (fs_set 3 (fe_newL fa_nil) nd) (fss_cons (fs_set 4 fe_int nd) (fss_cons (fs_forL 5 nd (fe_v 0) (fss_cons (fs_while 5000 (fb_w (fw_and (fb_lt (fe_v 4) (fe_len T.b_len (fa_cons (fe_v 1) fa_nil))) (fw_and1 (fb_val (fe_callX (fun x g e => (hft x g e).mono (by decide)) (fun t g e => (hlt t g e).mono (by decide)) hct (hr.mono (by decide)) (fe_v 2) (fa_cons (fe_ix (fe_v 1) (fe_v 4)) (fa_cons (fe_v 5) fa_nil))))))) (fss_cons (fs_append (fe_v 3) (fe_ix (fe_v 1) (fe_v 4))) (fss_one (fs_set 4 (fe_add (fe_v 4) fe_int) nd))) PassesOwn.never) (fss_cons (fs_append (fe_v 3) (fe_v 5)) (fss_one (fs_if (fb_w (fw_and (fb_lt (fe_v 4) (fe_len T.b_len (fa_cons (fe_v 1) fa_nil))) (fw_and1 (fb_not (fb_val (fe_callX (fun x g e => (hft x g e).mono (by decide)) (fun t g e => (hlt t g e).mono (by decide)) hct (hr.mono (by decide)) (fe_v 2) (fa_cons (fe_v 5) (fa_cons (fe_ix (fe_v 1) (fe_v 4)) fa_nil)))))))) (fss_one (fs_set 4 (fe_add (fe_v 4) fe_int) nd)) fss_nil)))) PassesOwn.never) (fss_one (fs_ret (fe_addL (fe_v 3) (fe_slice (fe_v 1) (fp_some (fe_v 4)) fp_none)))))))
theorem kk_merged (T : TX K mg base) (hft : ∀ x g,ft x = some g → Cal P w K mg base 1 x g) (hlt : ∀ t g,lamt t = some g → LCal P w K mg base 1 t g) (hct : ∀ t g,clot t = some g → CCal P w K mg base 2 t g) : Cal P w K mg base 3 "merged" g_merged := (T.f_merged.cal sc_merged (fun _ _ _ _ _ _ => ls3 fun _ _ _ => rfl) (fun f cdv A outer s H E hr => d_merged T  hft hlt hct hr)).frz
theorem sc_either : FnScope ["wood", "one", "other", "before"] ["wood", "one", "other", "before"] (defScope s_either) := ⟨rfl,rfl,rfl,by decide +kernel,rfl,by decide +kernel,by decide +kernel⟩
theorem d_either (T : TX K mg base) (C_make_of : Cal P w K mg base 46 "make_of" g_make_of) (C_merged : Cal P w K mg base 3 "merged" g_merged) (C_things_of : Cal P w K mg base 43 "things_of" g_things_of) (hr : Room 46 (A.deeper (envOfC "either" (defScope s_either) s.heap.objs.size f cdv))) :
   FSs (cxOf CX0 P w K mg base ["wood", "one", "other", "before"] "either" (defScope s_either) f cdv A outer s H E).nox (defBody s_either) c_either := by
 have nd := sc_either.nd
 exact (fss_one (fs_ret (fe_call C_make_of (hr.mono (by decide)) (fa_cons (fe_v 0) (fa_cons (fe_call C_merged (hr.mono (by decide)) (fa_cons (fe_call C_things_of (hr.mono (by decide)) (fa_cons (fe_v 1) fa_nil)) (fa_cons (fe_call C_things_of (hr.mono (by decide)) (fa_cons (fe_v 2) fa_nil)) (fa_cons (fe_v 3) fa_nil)))) fa_nil)))))
theorem kk_either (T : TX K mg base) (C_make_of : Cal P w K mg base 46 "make_of" g_make_of) (C_merged : Cal P w K mg base 3 "merged" g_merged) (C_things_of : Cal P w K mg base 43 "things_of" g_things_of) : Cal P w K mg base 47 "either" g_either := (T.f_either.cal sc_either (fun _ _ _ _ _ _ => ls4 fun _ _ _ _ => rfl) (fun f cdv A outer s H E hr => d_either T C_make_of C_merged C_things_of hr))
theorem sc_less : FnScope ["wood", "one", "other", "before"] ["wood", "one", "other", "before"] (defScope s_less) := ⟨rfl,rfl,rfl,by decide +kernel,rfl,by decide +kernel,by decide +kernel⟩
theorem d_less (T : TX K mg base) (C_has : Cal P w K mg base 45 "has" g_has) (C_make_of : Cal P w K mg base 46 "make_of" g_make_of) (C_things_of : Cal P w K mg base 43 "things_of" g_things_of) (hr : Room 46 (A.deeper (envOfC "less" (defScope s_less) s.heap.objs.size f cdv))) :
   FSs (cxOf CX0 P w K mg base ["wood", "one", "other", "before"] "less" (defScope s_less) f cdv A outer s H E).nox (defBody s_less) c_less := by
 have nd := sc_less.nd
 exact (fss_one (fs_ret (fe_call C_make_of (hr.mono (by decide)) (fa_cons (fe_v 0) (fa_cons (fe_compL (compOk_mk (x := "thing") (N' := ["before", "other"]) (fr := [3,2]) (by decide +kernel) rfl rfl rfl rfl rfl) (fe_call C_things_of (hr.mono (by decide)) (fa_cons (fe_v 1) fa_nil)) (fun _ _ _ _ => .one (fb_not (fb_val (fe_call C_has (hr.mono (by decide)) (fa_cons (fe_v 2) (fa_cons (fe_v 0) (fa_cons (fe_v 1) fa_nil))))))) (fun _ _ _ _ => (fe_v 0))) fa_nil)))))
theorem kk_less (T : TX K mg base) (C_has : Cal P w K mg base 45 "has" g_has) (C_make_of : Cal P w K mg base 46 "make_of" g_make_of) (C_things_of : Cal P w K mg base 43 "things_of" g_things_of) : Cal P w K mg base 47 "less" g_less := (T.f_less.cal sc_less (fun _ _ _ _ _ _ => ls4 fun _ _ _ _ => rfl) (fun f cdv A outer s H E hr => d_less T C_has C_make_of C_things_of hr))
theorem sc__law_two : FnScope ["_law_wood", "_law_one", "_law_other", "_law_before", "_law_whole", "_law_shared", "_law_rest", "_law_make", "_law_place", "_law_thing_here"] ["_law_wood", "_law_one", "_law_other", "_law_before"] (defScope s__law_two) := ⟨rfl,rfl,rfl,by decide +kernel,rfl,by decide +kernel,by decide +kernel⟩
theorem d__law_two (T : TX K mg base) (C__law_right : Cal P w K mg base 46 "_law_right" g__law_right) (C_at : Cal P w K mg base 43 "at" g_at) (C_common : Cal P w K mg base 47 "common" g_common) (C_either : Cal P w K mg base 47 "either" g_either) (C_has : Cal P w K mg base 45 "has" g_has) (C_less : Cal P w K mg base 47 "less" g_less) (C_place_of : Cal P w K mg base 44 "place_of" g_place_of) (C_size : Cal P w K mg base 1 "size" g_size) (C_things_of : Cal P w K mg base 43 "things_of" g_things_of) (hr : Room 47 (A.deeper (envOfC "_law_two" (defScope s__law_two) s.heap.objs.size f cdv))) :
   FSs (cxOf CX0 P w K mg base ["_law_wood", "_law_one", "_law_other", "_law_before", "_law_whole", "_law_shared", "_law_rest", "_law_make", "_law_place", "_law_thing_here"] "_law_two" (defScope s__law_two) f cdv A outer s H E).nox (defBody s__law_two) c__law_two := by
 have nd := sc__law_two.nd
 exact (fss_cons (fs_set 4 (fe_call C_either (hr.mono (by decide)) (fa_cons (fe_v 0) (fa_cons (fe_v 1) (fa_cons (fe_v 2) (fa_cons (fe_v 3) fa_nil))))) nd) (fss_cons (fs_set 5 (fe_call C_common (hr.mono (by decide)) (fa_cons (fe_v 0) (fa_cons (fe_v 1) (fa_cons (fe_v 2) (fa_cons (fe_v 3) fa_nil))))) nd) (fss_cons (fs_set 6 (fe_call C_less (hr.mono (by decide)) (fa_cons (fe_v 0) (fa_cons (fe_v 1) (fa_cons (fe_v 2) (fa_cons (fe_v 3) fa_nil))))) nd) (fss_cons (fs_if (fb_not (fb_val (fe_call C__law_right (hr.mono (by decide)) (fa_cons (fe_lst (fa_cons (fe_v 4) (fa_cons (fe_v 5) (fa_cons (fe_v 6) fa_nil)))) (fa_cons (fe_v 3) fa_nil))))) (fss_one (fs_ret fe_bl)) fss_nil) (fss_cons (fs_if (fb_w (fw_or (fb_ne hr (fe_add (fe_call C_size (hr.mono (by decide)) (fa_cons (fe_v 4) fa_nil)) (fe_call C_size (hr.mono (by decide)) (fa_cons (fe_v 5) fa_nil))) (fe_add (fe_call C_size (hr.mono (by decide)) (fa_cons (fe_v 1) fa_nil)) (fe_call C_size (hr.mono (by decide)) (fa_cons (fe_v 2) fa_nil)))) (fw_or1 (fb_isNot (fe_call C_common (hr.mono (by decide)) (fa_cons (fe_v 0) (fa_cons (fe_v 6) (fa_cons (fe_v 2) (fa_cons (fe_v 3) fa_nil))))) fe_non)))) (fss_one (fs_ret fe_bl)) fss_nil) (fss_cons (fs_if (fb_ne hr (fe_call C_things_of (hr.mono (by decide)) (fa_cons (fe_call C_either (hr.mono (by decide)) (fa_cons (fe_v 0) (fa_cons (fe_v 6) (fa_cons (fe_v 5) (fa_cons (fe_v 3) fa_nil))))) fa_nil)) (fe_call C_things_of (hr.mono (by decide)) (fa_cons (fe_v 1) fa_nil))) (fss_one (fs_ret fe_bl)) fss_nil) (fss_cons (fs_forL 7 nd (fe_lst (fa_cons (fe_v 1) (fa_cons (fe_v 2) fa_nil))) (fss_one (fs_forR 8 nd T.b_range (fe_call C_size (hr.mono (by decide)) (fa_cons (fe_v 7) fa_nil)) (fss_cons (fs_set 9 (fe_call C_at (hr.mono (by decide)) (fa_cons (fe_v 7) (fa_cons (fe_v 8) fa_nil))) nd) (fss_one (fs_if (fb_w (fw_or (fb_ne hr (fe_call C_place_of (hr.mono (by decide)) (fa_cons (fe_v 7) (fa_cons (fe_v 9) (fa_cons (fe_v 3) fa_nil)))) (fe_v 8)) (fw_or1 (fb_isNot (fe_call C_has (hr.mono (by decide)) (fa_cons (fe_v 4) (fa_cons (fe_v 9) (fa_cons (fe_v 3) fa_nil)))) fe_bl)))) (fss_one (fs_ret fe_bl)) fss_nil))) PassesOwn.never)) PassesOwn.never) (fss_one (fs_ret (fe_is (fe_call C_less (hr.mono (by decide)) (fa_cons (fe_v 0) (fa_cons (fe_v 1) (fa_cons (fe_v 1) (fa_cons (fe_v 3) fa_nil))))) fe_non))))))))))
theorem kk__law_two (T : TX K mg base) (C__law_right : Cal P w K mg base 46 "_law_right" g__law_right) (C_at : Cal P w K mg base 43 "at" g_at) (C_common : Cal P w K mg base 47 "common" g_common) (C_either : Cal P w K mg base 47 "either" g_either) (C_has : Cal P w K mg base 45 "has" g_has) (C_less : Cal P w K mg base 47 "less" g_less) (C_place_of : Cal P w K mg base 44 "place_of" g_place_of) (C_size : Cal P w K mg base 1 "size" g_size) (C_things_of : Cal P w K mg base 43 "things_of" g_things_of) : Cal P w K mg base 48 "_law_two" g__law_two := (T.f__law_two.cal sc__law_two (fun _ _ _ _ _ _ => ls4 fun _ _ _ _ => rfl) (fun f cdv A outer s H E hr => d__law_two T C__law_right C_at C_common C_either C_has C_less C_place_of C_size C_things_of hr))
theorem sc_Wood_turned : FnScope ["self", "make", "row"] ["self", "make"] (defScope s_Wood_turned) := ⟨rfl,rfl,rfl,by decide +kernel,rfl,by decide +kernel,by decide +kernel⟩
theorem d_Wood_turned (T : TX K mg base) (C_Wood_numbered : Mth P w K mg base 1 "Wood" "numbered" g_Wood_numbered) (C_back : Cal P w K mg base 1 "back" g_back) (C_height : Cal P w K mg base 1 "height" g_height) (C_size : Cal P w K mg base 1 "size" g_size) (C_total : Cal P w K mg base 1 "total" g_total) (hr : Room 1 (A.deeper (envOfC "Wood.turned" (defScope s_Wood_turned) s.heap.objs.size f cdv))) :
   FSs (cxOf CX0 P w K mg base ["self", "make", "row"] "Wood.turned" (defScope s_Wood_turned) f cdv A outer s H E).nox (defBody s_Wood_turned) c_Wood_turned := by
 have nd := sc_Wood_turned.nd
 exact (fss_cons (fs_if (fb_is (fe_v 1) fe_non) (fss_one (fs_ret fe_non)) fss_nil) (fss_cons (fs_set 2 (fe_tup (fa_cons (fe_ix (fe_v 1) (fe_gi T.i_LEFT)) (fa_cons (fe_ix (fe_v 1) (fe_gi T.i_THING)) (fa_cons (fe_ix (fe_v 1) (fe_gi T.i_RIGHT)) fa_nil)))) nd) (fss_one (fs_ret (fe_meth C_Wood_numbered (hr.mono (by decide)) (fe_v 0) (fa_cons (fe_add (fe_add (fe_tup (fa_cons (fe_not (fe_ix (fe_v 1) (fe_gi T.i_ABOUT))) fa_nil)) (fe_v 2)) (fe_tup (fa_cons (fe_call C_size (hr.mono (by decide)) (fa_cons (fe_v 1) fa_nil)) (fa_cons (fe_call C_height (hr.mono (by decide)) (fa_cons (fe_v 1) fa_nil)) (fa_cons (fe_call C_back (hr.mono (by decide)) (fa_cons (fe_v 1) fa_nil)) (fa_cons (fe_call C_total (hr.mono (by decide)) (fa_cons (fe_v 1) fa_nil)) fa_nil)))))) fa_nil))))))
theorem kk_Wood_turned (T : TX K mg base) (C_Wood_numbered : Mth P w K mg base 1 "Wood" "numbered" g_Wood_numbered) (C_back : Cal P w K mg base 1 "back" g_back) (C_height : Cal P w K mg base 1 "height" g_height) (C_size : Cal P w K mg base 1 "size" g_size) (C_total : Cal P w K mg base 1 "total" g_total) : Mth P w K mg base 2 "Wood" "turned" g_Wood_turned := T.f_Wood_turned.mth sc_Wood_turned (fun _ _ _ _ _ _ => ls2 fun _ _ => rfl) (fun f cdv A outer s H E hr => d_Wood_turned T C_Wood_numbered C_back C_height C_size C_total hr)
theorem sc_parts : FnScope ["wood", "make", "ahead", "behind"] ["wood", "make"] (defScope s_parts) := ⟨rfl,rfl,rfl,by decide +kernel,rfl,by decide +kernel,by decide +kernel⟩
theorem d_parts (T : TX K mg base) (C_Wood_turned : Mth P w K mg base 2 "Wood" "turned" g_Wood_turned) (hr : Room 2 (A.deeper (envOfC "parts" (defScope s_parts) s.heap.objs.size f cdv))) :
   FSs (cxOf CX0 P w K mg base ["wood", "make", "ahead", "behind"] "parts" (defScope s_parts) f cdv A outer s H E).nox (defBody s_parts) c_parts := by
 have nd := sc_parts.nd
 exact (fss_cons (fs_if (fb_not (fb_val (fe_ix (fe_v 1) (fe_gi T.i_ABOUT)))) (fss_one (fs_ret (fe_tup (fa_cons (fe_ix (fe_v 1) (fe_gi T.i_LEFT)) (fa_cons (fe_ix (fe_v 1) (fe_gi T.i_THING)) (fa_cons (fe_ix (fe_v 1) (fe_gi T.i_RIGHT)) fa_nil)))))) fss_nil) (fss_cons (fs_set 2 (fe_meth C_Wood_turned (hr.mono (by decide)) (fe_v 0) (fa_cons (fe_ix (fe_v 1) (fe_gi T.i_RIGHT)) fa_nil)) nd) (fss_cons (fs_set 3 (fe_meth C_Wood_turned (hr.mono (by decide)) (fe_v 0) (fa_cons (fe_ix (fe_v 1) (fe_gi T.i_LEFT)) fa_nil)) nd) (fss_one (fs_ret (fe_tup (fa_cons (fe_v 2) (fa_cons (fe_ix (fe_v 1) (fe_gi T.i_THING)) (fa_cons (fe_v 3) fa_nil)))))))))
theorem kk_parts (T : TX K mg base) (C_Wood_turned : Mth P w K mg base 2 "Wood" "turned" g_Wood_turned) : Cal P w K mg base 3 "parts" g_parts := (T.f_parts.cal sc_parts (fun _ _ _ _ _ _ => ls2 fun _ _ => rfl) (fun f cdv A outer s H E hr => d_parts T C_Wood_turned hr))
theorem sc_lifted_left : FnScope ["wood", "left", "thing", "right", "outer", "inner", "ahead", "behind"] ["wood", "left", "thing", "right"] (defScope s_lifted_left) := ⟨rfl,rfl,rfl,by decide +kernel,rfl,by decide +kernel,by decide +kernel⟩
theorem d_lifted_left (T : TX K mg base) (C_Wood_node : Mth P w K mg base 4 "Wood" "node" g_Wood_node) (C_height : Cal P w K mg base 1 "height" g_height) (C_parts : Cal P w K mg base 3 "parts" g_parts) (hr : Room 4 (A.deeper (envOfC "lifted_left" (defScope s_lifted_left) s.heap.objs.size f cdv))) :
   FSs (cxOf CX0 P w K mg base ["wood", "left", "thing", "right", "outer", "inner", "ahead", "behind"] "lifted_left" (defScope s_lifted_left) f cdv A outer s H E).nox (defBody s_lifted_left) c_lifted_left := by
 have nd := sc_lifted_left.nd
 exact (fss_cons (fs_set 4 (fe_call C_parts (hr.mono (by decide)) (fa_cons (fe_v 0) (fa_cons (fe_v 1) fa_nil))) nd) (fss_cons (fs_if (fb_ge (fe_call C_height (hr.mono (by decide)) (fa_cons (fe_ix (fe_v 4) (fe_gi T.i_AHEAD)) fa_nil)) (fe_call C_height (hr.mono (by decide)) (fa_cons (fe_ix (fe_v 4) (fe_gi T.i_BEHIND)) fa_nil))) (fss_one (fs_ret (fe_meth C_Wood_node (hr.mono (by decide)) (fe_v 0) (fa_cons (fe_ix (fe_v 4) (fe_gi T.i_AHEAD)) (fa_cons (fe_ix (fe_v 4) (fe_gi T.i_MIDDLE)) (fa_cons (fe_meth C_Wood_node (hr.mono (by decide)) (fe_v 0) (fa_cons (fe_ix (fe_v 4) (fe_gi T.i_BEHIND)) (fa_cons (fe_v 2) (fa_cons (fe_v 3) fa_nil)))) fa_nil)))))) fss_nil) (fss_cons (fs_set 5 (fe_call C_parts (hr.mono (by decide)) (fa_cons (fe_v 0) (fa_cons (fe_ix (fe_v 4) (fe_gi T.i_BEHIND)) fa_nil))) nd) (fss_cons (fs_set 6 (fe_meth C_Wood_node (hr.mono (by decide)) (fe_v 0) (fa_cons (fe_ix (fe_v 4) (fe_gi T.i_AHEAD)) (fa_cons (fe_ix (fe_v 4) (fe_gi T.i_MIDDLE)) (fa_cons (fe_ix (fe_v 5) (fe_gi T.i_AHEAD)) fa_nil)))) nd) (fss_cons (fs_set 7 (fe_meth C_Wood_node (hr.mono (by decide)) (fe_v 0) (fa_cons (fe_ix (fe_v 5) (fe_gi T.i_BEHIND)) (fa_cons (fe_v 2) (fa_cons (fe_v 3) fa_nil)))) nd) (fss_one (fs_ret (fe_meth C_Wood_node (hr.mono (by decide)) (fe_v 0) (fa_cons (fe_v 6) (fa_cons (fe_ix (fe_v 5) (fe_gi T.i_MIDDLE)) (fa_cons (fe_v 7) fa_nil)))))))))))
theorem kk_lifted_left (T : TX K mg base) (C_Wood_node : Mth P w K mg base 4 "Wood" "node" g_Wood_node) (C_height : Cal P w K mg base 1 "height" g_height) (C_parts : Cal P w K mg base 3 "parts" g_parts) : Cal P w K mg base 5 "lifted_left" g_lifted_left := (T.f_lifted_left.cal sc_lifted_left (fun _ _ _ _ _ _ => ls4 fun _ _ _ _ => rfl) (fun f cdv A outer s H E hr => d_lifted_left T C_Wood_node C_height C_parts hr))
theorem sc_lifted_right : FnScope ["wood", "left", "thing", "right", "outer", "inner", "ahead", "behind"] ["wood", "left", "thing", "right"] (defScope s_lifted_right) := ⟨rfl,rfl,rfl,by decide +kernel,rfl,by decide +kernel,by decide +kernel⟩
theorem d_lifted_right (T : TX K mg base) (C_Wood_node : Mth P w K mg base 4 "Wood" "node" g_Wood_node) (C_height : Cal P w K mg base 1 "height" g_height) (C_parts : Cal P w K mg base 3 "parts" g_parts) (hr : Room 4 (A.deeper (envOfC "lifted_right" (defScope s_lifted_right) s.heap.objs.size f cdv))) :
   FSs (cxOf CX0 P w K mg base ["wood", "left", "thing", "right", "outer", "inner", "ahead", "behind"] "lifted_right" (defScope s_lifted_right) f cdv A outer s H E).nox (defBody s_lifted_right) c_lifted_right := by
 have nd := sc_lifted_right.nd
 exact (fss_cons (fs_set 4 (fe_call C_parts (hr.mono (by decide)) (fa_cons (fe_v 0) (fa_cons (fe_v 3) fa_nil))) nd) (fss_cons (fs_if (fb_ge (fe_call C_height (hr.mono (by decide)) (fa_cons (fe_ix (fe_v 4) (fe_gi T.i_BEHIND)) fa_nil)) (fe_call C_height (hr.mono (by decide)) (fa_cons (fe_ix (fe_v 4) (fe_gi T.i_AHEAD)) fa_nil))) (fss_one (fs_ret (fe_meth C_Wood_node (hr.mono (by decide)) (fe_v 0) (fa_cons (fe_meth C_Wood_node (hr.mono (by decide)) (fe_v 0) (fa_cons (fe_v 1) (fa_cons (fe_v 2) (fa_cons (fe_ix (fe_v 4) (fe_gi T.i_AHEAD)) fa_nil)))) (fa_cons (fe_ix (fe_v 4) (fe_gi T.i_MIDDLE)) (fa_cons (fe_ix (fe_v 4) (fe_gi T.i_BEHIND)) fa_nil)))))) fss_nil) (fss_cons (fs_set 5 (fe_call C_parts (hr.mono (by decide)) (fa_cons (fe_v 0) (fa_cons (fe_ix (fe_v 4) (fe_gi T.i_AHEAD)) fa_nil))) nd) (fss_cons (fs_set 6 (fe_meth C_Wood_node (hr.mono (by decide)) (fe_v 0) (fa_cons (fe_v 1) (fa_cons (fe_v 2) (fa_cons (fe_ix (fe_v 5) (fe_gi T.i_AHEAD)) fa_nil)))) nd) (fss_cons (fs_set 7 (fe_meth C_Wood_node (hr.mono (by decide)) (fe_v 0) (fa_cons (fe_ix (fe_v 5) (fe_gi T.i_BEHIND)) (fa_cons (fe_ix (fe_v 4) (fe_gi T.i_MIDDLE)) (fa_cons (fe_ix (fe_v 4) (fe_gi T.i_BEHIND)) fa_nil)))) nd) (fss_one (fs_ret (fe_meth C_Wood_node (hr.mono (by decide)) (fe_v 0) (fa_cons (fe_v 6) (fa_cons (fe_ix (fe_v 5) (fe_gi T.i_MIDDLE)) (fa_cons (fe_v 7) fa_nil)))))))))))
theorem kk_lifted_right (T : TX K mg base) (C_Wood_node : Mth P w K mg base 4 "Wood" "node" g_Wood_node) (C_height : Cal P w K mg base 1 "height" g_height) (C_parts : Cal P w K mg base 3 "parts" g_parts) : Cal P w K mg base 5 "lifted_right" g_lifted_right := (T.f_lifted_right.cal sc_lifted_right (fun _ _ _ _ _ _ => ls4 fun _ _ _ _ => rfl) (fun f cdv A outer s H E hr => d_lifted_right T C_Wood_node C_height C_parts hr))
theorem sc_balanced : FnScope ["wood", "left", "thing", "right"] ["wood", "left", "thing", "right"] (defScope s_balanced) := ⟨rfl,rfl,rfl,by decide +kernel,rfl,by decide +kernel,by decide +kernel⟩
theorem d_balanced (T : TX K mg base) (C_Wood_node : Mth P w K mg base 4 "Wood" "node" g_Wood_node) (C_height : Cal P w K mg base 1 "height" g_height) (C_in_balance : Cal P w K mg base 2 "in_balance" g_in_balance) (C_lifted_left : Cal P w K mg base 5 "lifted_left" g_lifted_left) (C_lifted_right : Cal P w K mg base 5 "lifted_right" g_lifted_right) (hr : Room 5 (A.deeper (envOfC "balanced" (defScope s_balanced) s.heap.objs.size f cdv))) :
   FSs (cxOf CX0 P w K mg base ["wood", "left", "thing", "right"] "balanced" (defScope s_balanced) f cdv A outer s H E).nox (defBody s_balanced) c_balanced := by
 have nd := sc_balanced.nd
 exact (fss_cons (fs_if (fb_val (fe_call C_in_balance (hr.mono (by decide)) (fa_cons (fe_v 1) (fa_cons (fe_v 3) fa_nil)))) (fss_one (fs_ret (fe_meth C_Wood_node (hr.mono (by decide)) (fe_v 0) (fa_cons (fe_v 1) (fa_cons (fe_v 2) (fa_cons (fe_v 3) fa_nil)))))) fss_nil) (fss_cons (fs_if (fb_gt (fe_call C_height (hr.mono (by decide)) (fa_cons (fe_v 1) fa_nil)) (fe_call C_height (hr.mono (by decide)) (fa_cons (fe_v 3) fa_nil))) (fss_one (fs_ret (fe_call C_lifted_left (hr.mono (by decide)) (fa_cons (fe_v 0) (fa_cons (fe_v 1) (fa_cons (fe_v 2) (fa_cons (fe_v 3) fa_nil))))))) fss_nil) (fss_one (fs_ret (fe_call C_lifted_right (hr.mono (by decide)) (fa_cons (fe_v 0) (fa_cons (fe_v 1) (fa_cons (fe_v 2) (fa_cons (fe_v 3) fa_nil)))))))))
theorem kk_balanced (T : TX K mg base) (C_Wood_node : Mth P w K mg base 4 "Wood" "node" g_Wood_node) (C_height : Cal P w K mg base 1 "height" g_height) (C_in_balance : Cal P w K mg base 2 "in_balance" g_in_balance) (C_lifted_left : Cal P w K mg base 5 "lifted_left" g_lifted_left) (C_lifted_right : Cal P w K mg base 5 "lifted_right" g_lifted_right) : Cal P w K mg base 6 "balanced" g_balanced := (T.f_balanced.cal sc_balanced (fun _ _ _ _ _ _ => ls4 fun _ _ _ _ => rfl) (fun f cdv A outer s H E hr => d_balanced T C_Wood_node C_height C_in_balance C_lifted_left C_lifted_right hr))
theorem sc_put_in : FnScope ["wood", "make", "place", "thing", "row", "middle"] ["wood", "make", "place", "thing"] (defScope s_put_in) := ⟨rfl,rfl,rfl,by decide +kernel,rfl,by decide +kernel,by decide +kernel⟩
theorem d_put_in (T : TX K mg base) (C_Wood_node : Mth P w K mg base 4 "Wood" "node" g_Wood_node) (C_balanced : Cal P w K mg base 6 "balanced" g_balanced) (C_parts : Cal P w K mg base 3 "parts" g_parts) (C_size : Cal P w K mg base 1 "size" g_size) {self : G} {n : Nat} (hself : Cal P w K mg base (7 + n) "put_in" self) (hr0 : Room (7 + n) (A.deeper (envOfC "put_in" (defScope s_put_in) s.heap.objs.size f cdv))) :
   FSs (cxOf CX0 P w K mg base ["wood", "make", "place", "thing", "row", "middle"] "put_in" (defScope s_put_in) f cdv A outer s H E).nox (defBody s_put_in) (c_put_in self) := by
 have nd := sc_put_in.nd
 have hr := hr0.mono (Nat.le_add_right 7 n)
 exact (fss_cons (fs_if (fb_is (fe_v 1) fe_non) (fss_one (fs_ret (fe_meth C_Wood_node (hr.mono (by decide)) (fe_v 0) (fa_cons fe_non (fa_cons (fe_v 3) (fa_cons fe_non fa_nil)))))) fss_nil) (fss_cons (fs_set 4 (fe_call C_parts (hr.mono (by decide)) (fa_cons (fe_v 0) (fa_cons (fe_v 1) fa_nil))) nd) (fss_cons (fs_set 5 (fe_call C_size (hr.mono (by decide)) (fa_cons (fe_ix (fe_v 4) (fe_gi T.i_AHEAD)) fa_nil)) nd) (fss_cons (fs_if (fb_le (fe_v 2) (fe_v 5)) (fss_one (fs_ret (fe_call C_balanced (hr.mono (by decide)) (fa_cons (fe_v 0) (fa_cons (fe_call hself hr0 (fa_cons (fe_v 0) (fa_cons (fe_ix (fe_v 4) (fe_gi T.i_AHEAD)) (fa_cons (fe_v 2) (fa_cons (fe_v 3) fa_nil))))) (fa_cons (fe_ix (fe_v 4) (fe_gi T.i_MIDDLE)) (fa_cons (fe_ix (fe_v 4) (fe_gi T.i_BEHIND)) fa_nil))))))) fss_nil) (fss_one (fs_ret (fe_call C_balanced (hr.mono (by decide)) (fa_cons (fe_v 0) (fa_cons (fe_ix (fe_v 4) (fe_gi T.i_AHEAD)) (fa_cons (fe_ix (fe_v 4) (fe_gi T.i_MIDDLE)) (fa_cons (fe_call hself hr0 (fa_cons (fe_v 0) (fa_cons (fe_ix (fe_v 4) (fe_gi T.i_BEHIND)) (fa_cons (fe_sub (fe_sub (fe_v 2) (fe_v 5)) fe_int) (fa_cons (fe_v 3) fa_nil))))) fa_nil)))))))))))
theorem kk_put_in (T : TX K mg base) (C_Wood_node : Mth P w K mg base 4 "Wood" "node" g_Wood_node) (C_balanced : Cal P w K mg base 6 "balanced" g_balanced) (C_parts : Cal P w K mg base 3 "parts" g_parts) (C_size : Cal P w K mg base 1 "size" g_size) : ∀ n : Nat,Cal P w K mg base (7 + n) "put_in" (g_put_in n)
 | 0 => T.f_put_in.none0 (ps := ["wood", "make", "place", "thing"]) (fun _ _ _ _ _ _ => ls4 fun _ _ _ _ => rfl)
 | n + 1 => T.f_put_in.cal sc_put_in (fun _ _ _ _ _ _ => ls4 fun _ _ _ _ => rfl) (fun f cdv A outer s H E hr => d_put_in T C_Wood_node C_balanced C_parts C_size (kk_put_in T C_Wood_node C_balanced C_parts C_size n) hr)
theorem sc_put : FnScope ["wood", "make", "place", "thing"] ["wood", "make", "place", "thing"] (defScope s_put) := ⟨rfl,rfl,rfl,by decide +kernel,rfl,by decide +kernel,by decide +kernel⟩
theorem d_put (T : TX K mg base) (C_check_place : Cal P w K mg base 1 "check_place" g_check_place) (C_check_room : Cal P w K mg base 1 "check_room" g_check_room) (C_put_in : Cal P w K mg base (7 + 40) "put_in" (g_put_in 40)) (C_size : Cal P w K mg base 1 "size" g_size) (hr : Room 47 (A.deeper (envOfC "put" (defScope s_put) s.heap.objs.size f cdv))) :
   FSs (cxOf CX0 P w K mg base ["wood", "make", "place", "thing"] "put" (defScope s_put) f cdv A outer s H E).nox (defBody s_put) c_put := by
 have nd := sc_put.nd
 exact (fss_cons (fs_expr (fe_call C_check_place (hr.mono (by decide)) (fa_cons (fe_v 2) (fa_cons (fe_add (fe_call C_size (hr.mono (by decide)) (fa_cons (fe_v 1) fa_nil)) fe_int) fa_nil)))) (fss_cons (fs_expr (fe_call C_check_room (hr.mono (by decide)) (fa_cons (fe_add (fe_call C_size (hr.mono (by decide)) (fa_cons (fe_v 1) fa_nil)) fe_int) fa_nil))) (fss_one (fs_ret (fe_call C_put_in (hr.mono (by decide)) (fa_cons (fe_v 0) (fa_cons (fe_v 1) (fa_cons (fe_v 2) (fa_cons (fe_v 3) fa_nil)))))))))
theorem kk_put (T : TX K mg base) (C_check_place : Cal P w K mg base 1 "check_place" g_check_place) (C_check_room : Cal P w K mg base 1 "check_room" g_check_room) (C_put_in : Cal P w K mg base (7 + 40) "put_in" (g_put_in 40)) (C_size : Cal P w K mg base 1 "size" g_size) : Cal P w K mg base 48 "put" g_put := (T.f_put.cal sc_put (fun _ _ _ _ _ _ => ls4 fun _ _ _ _ => rfl) (fun f cdv A outer s H E hr => d_put T C_check_place C_check_room C_put_in C_size hr))
theorem sc_added : FnScope ["wood", "make", "thing", "before", "place"] ["wood", "make", "thing", "before"] (defScope s_added) := ⟨rfl,rfl,rfl,by decide +kernel,rfl,by decide +kernel,by decide +kernel⟩
theorem d_added (T : TX K mg base) (C_is_alike_at : Cal P w K mg base 44 "is_alike_at" g_is_alike_at) (C_place_of : Cal P w K mg base 44 "place_of" g_place_of) (C_put : Cal P w K mg base 48 "put" g_put) (hr : Room 48 (A.deeper (envOfC "added" (defScope s_added) s.heap.objs.size f cdv))) :
   FSs (cxOf CX0 P w K mg base ["wood", "make", "thing", "before", "place"] "added" (defScope s_added) f cdv A outer s H E).nox (defBody s_added) c_added := by
 have nd := sc_added.nd
 exact (fss_cons (fs_set 4 (fe_call C_place_of (hr.mono (by decide)) (fa_cons (fe_v 1) (fa_cons (fe_v 2) (fa_cons (fe_v 3) fa_nil)))) nd) (fss_cons (fs_if (fb_val (fe_call C_is_alike_at (hr.mono (by decide)) (fa_cons (fe_v 1) (fa_cons (fe_v 4) (fa_cons (fe_v 2) (fa_cons (fe_v 3) fa_nil)))))) (fss_one (fs_ret (fe_v 1))) fss_nil) (fss_one (fs_ret (fe_call C_put (hr.mono (by decide)) (fa_cons (fe_v 0) (fa_cons (fe_v 1) (fa_cons (fe_v 4) (fa_cons (fe_v 2) fa_nil)))))))))
theorem kk_added (T : TX K mg base) (C_is_alike_at : Cal P w K mg base 44 "is_alike_at" g_is_alike_at) (C_place_of : Cal P w K mg base 44 "place_of" g_place_of) (C_put : Cal P w K mg base 48 "put" g_put) : Cal P w K mg base 49 "added" g_added := (T.f_added.cal sc_added (fun _ _ _ _ _ _ => ls4 fun _ _ _ _ => rfl) (fun f cdv A outer s H E hr => d_added T C_is_alike_at C_place_of C_put hr))
theorem sc_law : FnScope ["_law_script", "_law_kind", "_law_before", "_law_wood", "_law_makes", "_law_k", "_law_make", "_law_j", "_law_one", "_law_other", "_law_front", "_law_second", "_law_turned"] ["_law_script"] (defScope s_law) := ⟨rfl,rfl,rfl,by decide +kernel,rfl,by decide +kernel,by decide +kernel⟩
structure CX_law (P : Program) (w : World) (K : PySem.W.Frag) (mg : Str → Option Value) (base : Heap) : Prop where
 mk ::
 k_Wood___init___d : Mak P w K mg base 1 "Wood" (dflt 1 g_Wood___init__)
 k__law_cell : Cal P w K mg base 1 "_law_cell" g__law_cell
 k__law_keys : Cal P w K mg base 44 "_law_keys" g__law_keys
 k__law_right : Cal P w K mg base 46 "_law_right" g__law_right
 k__law_thing : Cal P w K mg base 1 "_law_thing" g__law_thing
 k__law_two : Cal P w K mg base 48 "_law_two" g__law_two
 k_added : Cal P w K mg base 49 "added" g_added
 k_either : Cal P w K mg base 47 "either" g_either
 k_things_of : Cal P w K mg base 43 "things_of" g_things_of
theorem d_law (T : TX K mg base) (C : CX_law P w K mg base) {f : Addr} {cdv : Value} (hco : CodeOf K mg "law" cdv) {A : Around} {outer : List Env} {s : Shared} {H : Hp} {E : XK} (hr : Room 49 (A.deeper (envOfC "law" (defScope s_law) s.heap.objs.size f cdv))) :
   ∃ cl,FSs (cxOf CX0 P w K mg base ["_law_script", "_law_kind", "_law_before", "_law_wood", "_law_makes", "_law_k", "_law_make", "_law_j", "_law_one", "_law_other", "_law_front", "_law_second", "_law_turned"] "law" (defScope s_law) f cdv A outer s H E).nox (defBody s_law) (c_law cl) := by
 have nd := sc_law.nd
 apply Exists.intro
 exact (fss_cons (fs_set 1 (fe_mod (fe_call C.k__law_cell (hr.mono (by decide)) (fa_cons (fe_v 0) (fa_cons fe_int fa_nil))) fe_int) nd) (fss_cons (fs_set 2 (fe_lamG 0 hco T.blt rfl) nd) (fss_cons (fs_set 3 (fe_make0 C.k_Wood___init___d (hr.mono (by decide))) nd) (fss_cons (fs_set 4 (fe_newL fa_nil) nd) (fss_cons (fs_forR 5 nd T.b_range fe_int (fss_cons (fs_set 6 fe_non nd) (fss_cons (fs_forR 7 nd T.b_range (fe_mod (fe_call C.k__law_cell (hr.mono (by decide)) (fa_cons (fe_v 0) (fa_cons (fe_add fe_int (fe_v 5)) fa_nil))) fe_int) (fss_one (fs_set 6 (by exact (fe_callD C.k_added (CapsOk.mk rfl rfl (List.forall_mem_cons.mpr ⟨rfl,(fun _ h => nomatch h)⟩) (by decide +kernel) rfl (List.forall_mem_cons.mpr ⟨rfl,(fun _ h => nomatch h)⟩) (fun _ _ => rfl)) (hr.mono (by decide)) (fad_cons (fe_v 3) (fad_cons (fe_v 6) (fad_cons (fe_call C.k__law_thing (hr.mono (by decide)) (fa_cons (fe_v 1) (fa_cons (fe_call C.k__law_cell (hr.mono (by decide)) (fa_cons (fe_v 0) (fa_cons (fe_add (fe_add fe_int (fe_mul fe_int (fe_v 5))) (fe_v 7)) fa_nil))) fa_nil))) (fad_last (fe_v 2))))))) nd)) PassesOwn.never) (fss_one (fs_append (fe_v 4) (fe_v 6))))) PassesOwn.never) (fss_cons (fs_if (fb_not (fb_val (by exact (fe_callD C.k__law_right (CapsOk.mk rfl rfl (List.forall_mem_cons.mpr ⟨rfl,(fun _ h => nomatch h)⟩) (by decide +kernel) rfl (List.forall_mem_cons.mpr ⟨rfl,(fun _ h => nomatch h)⟩) (fun _ _ => rfl)) (hr.mono (by decide)) (fad_cons (fe_v 4) (fad_last (fe_v 2))))))) (fss_one (fs_ret fe_bl)) fss_nil) (fss_cons (fs_forLT [8,9] (names_cons 8 nd (names_cons 9 nd Names.nil)) (fe_lst (fa_cons (fe_tup (fa_cons (fe_ix (fe_v 4) fe_int) (fa_cons (fe_ix (fe_v 4) fe_int) fa_nil))) (fa_cons (fe_tup (fa_cons (fe_ix (fe_v 4) fe_int) (fa_cons (fe_ix (fe_v 4) fe_int) fa_nil))) (fa_cons (fe_tup (fa_cons (fe_ix (fe_v 4) fe_int) (fa_cons (fe_ix (fe_v 4) fe_int) fa_nil))) fa_nil)))) (fss_one (fs_if (fb_not (fb_val (by exact (fe_callD C.k__law_two (CapsOk.mk rfl rfl (List.forall_mem_cons.mpr ⟨rfl,(fun _ h => nomatch h)⟩) (by decide +kernel) rfl (List.forall_mem_cons.mpr ⟨rfl,(fun _ h => nomatch h)⟩) (fun _ _ => rfl)) (hr.mono (by decide)) (fad_cons (fe_v 3) (fad_cons (fe_v 8) (fad_cons (fe_v 9) (fad_last (fe_v 2))))))))) (fss_one (fs_ret fe_bl)) fss_nil)) PassesOwn.never) (fss_cons (fs_set 10 (by exact (fe_callD C.k_either (CapsOk.mk rfl rfl (List.forall_mem_cons.mpr ⟨rfl,(fun _ h => nomatch h)⟩) (by decide +kernel) rfl (List.forall_mem_cons.mpr ⟨rfl,(fun _ h => nomatch h)⟩) (fun _ _ => rfl)) (hr.mono (by decide)) (fad_cons (fe_v 3) (fad_cons (by exact (fe_callD C.k_either (CapsOk.mk rfl rfl (List.forall_mem_cons.mpr ⟨rfl,(fun _ h => nomatch h)⟩) (by decide +kernel) rfl (List.forall_mem_cons.mpr ⟨rfl,(fun _ h => nomatch h)⟩) (fun _ _ => rfl)) (hr.mono (by decide)) (fad_cons (fe_v 3) (fad_cons (fe_ix (fe_v 4) fe_int) (fad_cons (fe_ix (fe_v 4) fe_int) (fad_last (fe_v 2))))))) (fad_cons (fe_ix (fe_v 4) fe_int) (fad_last (fe_v 2))))))) nd) (fss_cons (fs_set 11 (by exact (fe_callD C.k_either (CapsOk.mk rfl rfl (List.forall_mem_cons.mpr ⟨rfl,(fun _ h => nomatch h)⟩) (by decide +kernel) rfl (List.forall_mem_cons.mpr ⟨rfl,(fun _ h => nomatch h)⟩) (fun _ _ => rfl)) (hr.mono (by decide)) (fad_cons (fe_v 3) (fad_cons (fe_ix (fe_v 4) fe_int) (fad_cons (by exact (fe_callD C.k_either (CapsOk.mk rfl rfl (List.forall_mem_cons.mpr ⟨rfl,(fun _ h => nomatch h)⟩) (by decide +kernel) rfl (List.forall_mem_cons.mpr ⟨rfl,(fun _ h => nomatch h)⟩) (fun _ _ => rfl)) (hr.mono (by decide)) (fad_cons (fe_v 3) (fad_cons (fe_ix (fe_v 4) fe_int) (fad_cons (fe_ix (fe_v 4) fe_int) (fad_last (fe_v 2))))))) (fad_last (fe_v 2))))))) nd) (fss_cons (fs_set 12 (by exact (fe_callD C.k_either (CapsOk.mk rfl rfl (List.forall_mem_cons.mpr ⟨rfl,(fun _ h => nomatch h)⟩) (by decide +kernel) rfl (List.forall_mem_cons.mpr ⟨rfl,(fun _ h => nomatch h)⟩) (fun _ _ => rfl)) (hr.mono (by decide)) (fad_cons (fe_v 3) (fad_cons (fe_ix (fe_v 4) fe_int) (fad_cons (by exact (fe_callD C.k_either (CapsOk.mk rfl rfl (List.forall_mem_cons.mpr ⟨rfl,(fun _ h => nomatch h)⟩) (by decide +kernel) rfl (List.forall_mem_cons.mpr ⟨rfl,(fun _ h => nomatch h)⟩) (fun _ _ => rfl)) (hr.mono (by decide)) (fad_cons (fe_v 3) (fad_cons (fe_ix (fe_v 4) fe_int) (fad_cons (fe_ix (fe_v 4) fe_int) (fad_last (fe_v 2))))))) (fad_last (fe_v 2))))))) nd) (fss_one (fs_ret (fe_and (fe_eq hr (fe_call C.k_things_of (hr.mono (by decide)) (fa_cons (fe_v 10) fa_nil)) (fe_call C.k_things_of (hr.mono (by decide)) (fa_cons (fe_v 11) fa_nil))) (fe_one (fe_eq hr (fe_call C.k__law_keys (hr.mono (by decide)) (fa_cons (fe_v 1) (fa_cons (fe_v 10) fa_nil))) (fe_call C.k__law_keys (hr.mono (by decide)) (fa_cons (fe_v 1) (fa_cons (fe_v 12) fa_nil))))))))))))))))))
theorem law_fn {P : Program} {w : World} {K : PySem.W.Frag} {mg : Str → Option Value} (T0 : HasDef K mg "law" s_law 0) (C : ∀ base,BltB base mg → TX K mg base ∧ CX_law P w K mg base) : ∃ fa fd,mg "law" = some (.ref fa) ∧ (∀ (s : Shared) (v : Value),BindsTo s fd ⟨[v],[]⟩ [("_law_script",v)]) ∧ ∀ base,BltB base mg → FnOk P w K mg base CX0 50 fa fd ["_law_script"] (spG K mg g_law) := by
 obtain ⟨f,fd,dV,F,hm,rfl⟩ := T0.ex
 have B := F.binds0 (ps := ["_law_script"]) (fun _ _ _ _ _ _ => ls1 fun _ => rfl)
 refine ⟨f,fd,hm,?_,fun base hB => F.okA hm sc_law fun cdv co A outer s H E hr => d_law (C base hB).1 (C base hB).2 co hr⟩
 obtain ⟨oc,od,kV,doc,pm,an,cdv,ct,osl,rfl,lk,hcd⟩ := F.ex
 exact fun s v => .of_eq rfl
theorem law_all {P : Program} {w : World} {K : PySem.W.Frag} {mg : Str → Option Value} (T : ∀ base,BltB base mg → TX K mg base) (T0 : HasDef K mg "law" s_law 0) : ∃ fa fd,mg "law" = some (.ref fa) ∧ (∀ (s : Shared) (v : Value),BindsTo s fd ⟨[v],[]⟩ [("_law_script",v)]) ∧ ∀ base,BltB base mg → FnOk P w K mg base CX0 50 fa fd ["_law_script"] (spG K mg g_law) := by
 refine law_fn T0 fun base hB => ?_
 have T := T base hB
 have k_Wood___init__ := kk_Wood___init__ (P := P) (w := w) (base := base) T 
 have k_Wood___init___d := kd_Wood___init__ (P := P) (w := w) (base := base) T 
 have k__law_cell := kk__law_cell (P := P) (w := w) (base := base) T 
 have k__law_key := kk__law_key (P := P) (w := w) (base := base) T 
 have k_seen := kk_seen (P := P) (w := w) (base := base) T 
 have k_gather := kk_gather (P := P) (w := w) (base := base) T k_seen 40
 have k_things_of := kk_things_of (P := P) (w := w) (base := base) T k_gather
 have k__law_keys := kk__law_keys (P := P) (w := w) (base := base) T k__law_key k_things_of
 have k_is_whole := kk_is_whole (P := P) (w := w) (base := base) T 
 have k_has_form := kk_has_form (P := P) (w := w) (base := base) T k_is_whole
 have k_height := kk_height (P := P) (w := w) (base := base) T 
 have k_height_above := kk_height_above (P := P) (w := w) (base := base) T k_height
 have k_in_balance := kk_in_balance (P := P) (w := w) (base := base) T k_height
 have k_size := kk_size (P := P) (w := w) (base := base) T 
 have k_size_above := kk_size_above (P := P) (w := w) (base := base) T k_size
 have k_has_right_measures := kk_has_right_measures (P := P) (w := w) (base := base) T k_height_above k_in_balance k_size_above
 have k_back := kk_back (P := P) (w := w) (base := base) T 
 have hlt : ∀ t g,lamt t = some g → LCal P w K mg base 1 t g := by
   intro t g e
   unfold lamt at e
   cases e
 have hft : ∀ x g,ft x = some g → Cal P w K mg base 1 x g := by
   intro x g e
   unfold ft at e
   cases e
 have k_backward_sum := kk_backward_sum (P := P) (w := w) (base := base) T k_back hft hlt
 have k_total := kk_total (P := P) (w := w) (base := base) T 
 have k_onward_sum := kk_onward_sum (P := P) (w := w) (base := base) T k_total hft hlt
 have k_sums_above := kk_sums_above (P := P) (w := w) (base := base) T k_backward_sum k_onward_sum
 have k_has_right_sums := kk_has_right_sums (P := P) (w := w) (base := base) T k_sums_above
 have k_is_right := kk_is_right (P := P) (w := w) (base := base) T k_has_form k_has_right_measures k_has_right_sums 40
 have k_is_right_d := kd_is_right (P := P) (w := w) (base := base) T k_has_form k_has_right_measures k_has_right_sums 40
 have hct : ∀ t g,clot t = some g → CCal P w K mg base 2 t g := by
   intro t g e
   unfold clot at e
   split at e
   · rename_i hx; cases e; subst hx; exact (kl_0 T k__law_key).mono (by decide)
   cases e
 have k__law_right := kk__law_right (P := P) (w := w) (base := base) T k_is_right_d k_things_of hft hlt hct
 have k__law_thing := kk__law_thing (P := P) (w := w) (base := base) T 
 have k_check_place := kk_check_place (P := P) (w := w) (base := base) T 
 have k_thing_at := kk_thing_at (P := P) (w := w) (base := base) T k_seen k_size 40
 have k_at := kk_at (P := P) (w := w) (base := base) T k_check_place k_size k_thing_at
 have k_is_alike_at := kk_is_alike_at (P := P) (w := w) (base := base) T k_at k_size hft hlt hct
 have k_count_before := kk_count_before (P := P) (w := w) (base := base) T k_seen k_size hft hlt hct 40
 have k_place_of := kk_place_of (P := P) (w := w) (base := base) T k_count_before
 have k_has := kk_has (P := P) (w := w) (base := base) T k_is_alike_at k_place_of
 have k_Wood_numbered := kk_Wood_numbered (P := P) (w := w) (base := base) T 
 have k_check_room := kk_check_room (P := P) (w := w) (base := base) T 
 have k_Wood_node := kk_Wood_node (P := P) (w := w) (base := base) T k_Wood_numbered k_check_room k_height_above k_in_balance k_size_above k_sums_above
 have k_built := kk_built (P := P) (w := w) (base := base) T k_Wood_node 40
 have k_make_of := kk_make_of (P := P) (w := w) (base := base) T k_built k_check_room
 have k_common := kk_common (P := P) (w := w) (base := base) T k_has k_make_of k_things_of
 have k_merged := kk_merged (P := P) (w := w) (base := base) T  hft hlt hct
 have k_either := kk_either (P := P) (w := w) (base := base) T k_make_of k_merged k_things_of
 have k_less := kk_less (P := P) (w := w) (base := base) T k_has k_make_of k_things_of
 have k__law_two := kk__law_two (P := P) (w := w) (base := base) T k__law_right k_at k_common k_either k_has k_less k_place_of k_size k_things_of
 have k_Wood_turned := kk_Wood_turned (P := P) (w := w) (base := base) T k_Wood_numbered k_back k_height k_size k_total
 have k_parts := kk_parts (P := P) (w := w) (base := base) T k_Wood_turned
 have k_lifted_left := kk_lifted_left (P := P) (w := w) (base := base) T k_Wood_node k_height k_parts
 have k_lifted_right := kk_lifted_right (P := P) (w := w) (base := base) T k_Wood_node k_height k_parts
 have k_balanced := kk_balanced (P := P) (w := w) (base := base) T k_Wood_node k_height k_in_balance k_lifted_left k_lifted_right
 have k_put_in := kk_put_in (P := P) (w := w) (base := base) T k_Wood_node k_balanced k_parts k_size 40
 have k_put := kk_put (P := P) (w := w) (base := base) T k_check_place k_check_room k_put_in k_size
 have k_added := kk_added (P := P) (w := w) (base := base) T k_is_alike_at k_place_of k_put
 exact ⟨T,⟨k_Wood___init___d,k__law_cell,k__law_keys,k__law_right,k__law_thing,k__law_two,k_added,k_either,k_things_of⟩⟩
end Pg
set_option maxHeartbeats 8000000
open PySem PySem.W L2 F PySem.Spec PyProof.Rows
def PySem.W.Fast.tw3553173913242729764 : Unit := ()
def PySem.W.Fast.tw13146242713718304504 : Unit := ()
def PySem.W.Fast.tw16597921309268355392 : Unit := ()
def PySem.W.Fast.tw5774490835633598174 : Unit := ()
def PySem.W.Fast.tw13743897279219618525 : Unit := ()
def PySem.W.Fast.tw7738365727754121791 : Unit := ()
def PySem.W.Fast.tw16529812994565649348 : Unit := ()
def PySem.W.Fast.tw9051850795650490443 : Unit := ()
def PySem.W.Fast.tw9316434288376443464 : Unit := ()
def PySem.W.Fast.tw11395610815138277182 : Unit := ()
def PySem.W.Fast.tw9707059644966146906 : Unit := ()
def PySem.W.Fast.tw9947259743426902282 : Unit := ()
def PySem.W.Fast.tw6953062724169280227 : Unit := ()
def PySem.W.Fast.tw296665514468996519 : Unit := ()
def PySem.W.Fast.tw4835154007604370378 : Unit := ()
def PySem.W.Fast.tw3807911589586041499 : Unit := ()
def PySem.W.Fast.tw10369937717706382674 : Unit := ()
def PySem.W.Fast.tw12959224060019230563 : Unit := ()
def PySem.W.Fast.tw1254814856940254812 : Unit := ()
def PySem.W.Fast.tw14904500667089146255 : Unit := ()
def PySem.W.Fast.tw14046883391624930027 : Unit := ()
def PySem.W.Fast.tw14155412109175607341 : Unit := ()
def PySem.W.Fast.tw13586615410511047240 : Unit := ()
def PySem.W.Fast.tw3115356558918429509 : Unit := ()
def PySem.W.Fast.tw9443153515451022094 : Unit := ()
def PySem.W.Fast.tw11502809517557704630 : Unit := ()
def PySem.W.Fast.tw615442259208248886 : Unit := ()
def PySem.W.Fast.tw8552503817529185634 : Unit := ()
def PySem.W.Fast.tw4207701322690553056 : Unit := ()
def PySem.W.Fast.tw4253015478019304077 : Unit := ()
def PySem.W.Fast.tw3620871080317227124 : Unit := ()
def PySem.W.Fast.tw8666369116122072082 : Unit := ()
def PySem.W.Fast.tw2066627429322224691 : Unit := ()
def PySem.W.Fast.tw5534963242333224275 : Unit := ()
def PySem.W.Fast.tw6270747480488795961 : Unit := ()
def PySem.W.Fast.tw8657224620030726630 : Unit := ()
def PySem.W.Fast.tw12229158311747704115 : Unit := ()
def PySem.W.Fast.tw3487777978197477251 : Unit := ()
def PySem.W.Fast.tw3158729790759470267 : Unit := ()
def PySem.W.Fast.tw5464744072204090838 : Unit := ()
def PySem.W.Fast.tw14554164778501697506 : Unit := ()
def PySem.W.Fast.tw7868147006254908449 : Unit := ()
def PySem.W.Fast.tw15783656785974249581 : Unit := ()
def PySem.W.Fast.tw16788986430700405178 : Unit := ()
def PySem.W.Fast.tw8277351898242401333 : Unit := ()
def PySem.W.Fast.tw8159264425542930411 : Unit := ()
def PySem.W.Fast.tw9309343182528455548 : Unit := ()
def PySem.W.Fast.tw13404458526386389213 : Unit := ()
def PySem.W.Fast.tw9086606090617888033 : Unit := ()
def PySem.W.Fast.tw16499110999530371588 : Unit := ()
def PySem.W.Fast.tw3222913180903614981 : Unit := ()
def PySem.W.Fast.tw1100751151106960273 : Unit := ()
def PySem.W.Fast.tw12265377787104398442 : Unit := ()
def PySem.W.Fast.tw1910098494338398656 : Unit := ()
def PySem.W.Fast.tw2309189128894594847 : Unit := ()
def PySem.W.Fast.tw13936502070404578073 : Unit := ()
def PySem.W.Fast.tw1415730334223346376 : Unit := ()
def PySem.W.Fast.tw987798044025585788 : Unit := ()
def PySem.W.Fast.tw15433363722035133967 : Unit := ()
def PySem.W.Fast.tw2156397162156186220 : Unit := ()
def PySem.W.Fast.tw5480024527396687933 : Unit := ()
def PySem.W.Fast.tw10770875096223568670 : Unit := ()
def PySem.W.Fast.tw7770460213605952633 : Unit := ()
def PySem.W.Fast.tw1387277929259870903 : Unit := ()
def PySem.W.Fast.tw1538851495286945389 : Unit := ()
def PySem.W.Fast.tw12098254770232297326 : Unit := ()
def PySem.W.Fast.tw8617173666555233549 : Unit := ()
def PySem.W.Fast.tw14993192144753937183 : Unit := ()
def PySem.W.Fast.tw7433792022018805910 : Unit := ()
def PySem.W.Fast.tw16194728922267179654 : Unit := ()
def PySem.W.Fast.tw10119185071912272964 : Unit := ()
def PySem.W.Fast.tw4577180040692389525 : Unit := ()
def PySem.W.Fast.tw8890356398759419544 : Unit := ()
def PySem.W.Fast.tw17144158300734722756 : Unit := ()
def PySem.W.Fast.tw12250464451597386741 : Unit := ()
def PySem.W.Fast.tw3184265697596785420 : Unit := ()
def PySem.W.Fast.tw2451678653612506838 : Unit := ()
def PySem.W.Fast.tw2158206004230922529 : Unit := ()
def PySem.W.Fast.tw15059937086123838674 : Unit := ()
def PySem.W.Fast.tw11904467821395535984 : Unit := ()
def PySem.W.Fast.tw10495427766728984008 : Unit := ()
def PySem.W.Fast.tw6221513433132625805 : Unit := ()
def PySem.W.Fast.tw5736362251815461885 : Unit := ()
def PySem.W.Fast.tw10054906061843301594 : Unit := ()
def PySem.W.Fast.tw16387188313254135559 : Unit := ()
def PySem.W.Fast.tw15081861669978440496 : Unit := ()
def PySem.W.Fast.tw3759145646246958068 : Unit := ()
def PySem.W.Fast.tw7190502630577333814 : Unit := ()
def PySem.W.Fast.tw5818194303868409145 : Unit := ()
def PySem.W.Fast.tw17215874416752242044 : Unit := ()
def PySem.W.Fast.tw12514340029082311464 : Unit := ()
def PySem.W.Fast.tw6135736834687350494 : Unit := ()
def PySem.W.Fast.tw11458597630840978847 : Unit := ()
def PySem.W.Fast.tw5320225366038779628 : Unit := ()
def PySem.W.Fast.tw7194615237701952082 : Unit := ()
def PySem.W.Fast.tw3592204294126993185 : Unit := ()
def PySem.W.Fast.tw4271830910845157997 : Unit := ()
def PySem.W.Fast.tw15341250720783017547 : Unit := ()
def PySem.W.Fast.tw17403622373978251948 : Unit := ()
def PySem.W.Fast.tw12984577117228436307 : Unit := ()
def PySem.W.Fast.tw14241379252695792397 : Unit := ()
def PySem.W.Fast.tw5213992900416042260 : Unit := ()
def PySem.W.Fast.tw746095299238767202 : Unit := ()
def PySem.W.Fast.tw16467890853235788938 : Unit := ()
def PySem.W.Fast.tw15965618332457203884 : Unit := ()
def PySem.W.Fast.tw10464147423250350099 : Unit := ()
def PySem.W.Fast.tw11622574876593405023 : Unit := ()
def PySem.W.Fast.tw12997452539793331010 : Unit := ()
def PySem.W.Fast.tw5013691426467695836 : Unit := ()
def PySem.W.Fast.tw13645993621134719264 : Unit := ()
def PySem.W.Fast.tw6862083572599975996 : Unit := ()
def PySem.W.Fast.tw5633752159246791697 : Unit := ()
def PySem.W.Fast.tw10026417131011503757 : Unit := ()
def PySem.W.Fast.tw14754388155751193987 : Unit := ()
def PySem.W.Fast.tw6645343263643023773 : Unit := ()
def PySem.W.Fast.tw15863474621993829308 : Unit := ()
def PySem.W.Fast.tw3608532568011181371 : Unit := ()
def PySem.W.Fast.tw7707341906935465779 : Unit := ()
def PySem.W.Fast.tw15946018537828675723 : Unit := ()
def PySem.W.Fast.tw9581879900208639698 : Unit := ()
def PySem.W.Fast.tw6795422747133432310 : Unit := ()
def PySem.W.Fast.tw8510466583209449377 : Unit := ()
def PySem.W.Fast.tw16266579357750731759 : Unit := ()
def PySem.W.Fast.tw5462834377886041077 : Unit := ()
def PySem.W.Fast.tw12567865011657082442 : Unit := ()
def PySem.W.Fast.tw7460013532213358280 : Unit := ()
def PySem.W.Fast.tw4903404744019967993 : Unit := ()
def PySem.W.Fast.tw17278061852713350049 : Unit := ()
def PySem.W.Fast.tw1967499239908326881 : Unit := ()
def PySem.W.Fast.tw9210972865475904681 : Unit := ()
def PySem.W.Fast.tw16369010856877379389 : Unit := ()
def PySem.W.Fast.tw17255634725526747211 : Unit := ()
def PySem.W.Fast.tw4082851110618175121 : Unit := ()
def PySem.W.Fast.tw9612435600060648036 : Unit := ()
def PySem.W.Fast.tw6433896696743548712 : Unit := ()
def PySem.W.Fast.tw6163023934036433714 : Unit := ()
def PySem.W.Fast.tw951615271639570715 : Unit := ()
def PySem.W.Fast.tw12732048907311026723 : Unit := ()
def PySem.W.Fast.tw4329711913759093205 : Unit := ()
def PySem.W.Fast.tw7584419957847617963 : Unit := ()
def PySem.W.Fast.tw3585348939692151096 : Unit := ()
def PySem.W.Fast.tw5046502935713803885 : Unit := ()
def PySem.W.Fast.tw1020243586396360758 : Unit := ()
def PySem.W.Fast.tw12129816866756027923 : Unit := ()
def PySem.W.Fast.tw5917158626552857700 : Unit := ()
def PySem.W.Fast.tw4281095227339259245 : Unit := ()
def PySem.W.Fast.tw4773371176067932877 : Unit := ()
def PySem.W.Fast.tw4175441756977862278 : Unit := ()
def PySem.W.Fast.tw3214353303646977223 : Unit := ()
def PySem.W.Fast.tw12892259152947727802 : Unit := ()
def PySem.W.Fast.tw5325320186528879436 : Unit := ()
def PySem.W.Fast.tw17152111063813395116 : Unit := ()
def PySem.W.Fast.tw14200178696636087852 : Unit := ()
def PySem.W.Fast.tw8146948678860793024 : Unit := ()
def PySem.W.Fast.tw8288615264649740553 : Unit := ()
def PySem.W.Fast.tw9506344342421026136 : Unit := ()
def PySem.W.Fast.tw1879614003912290269 : Unit := ()
def PySem.W.Fast.tw15123755645733214805 : Unit := ()
def PySem.W.Fast.tw4929395493646141973 : Unit := ()
def PySem.W.Fast.tw8482489763742611372 : Unit := ()
def PySem.W.Fast.tw7594438695173000715 : Unit := ()
def PySem.W.Fast.tw3385569329378554023 : Unit := ()
def PySem.W.Fast.tw16171052449610411648 : Unit := ()
def PySem.W.Fast.tw4107410325428552631 : Unit := ()
def PySem.W.Fast.tw8558128023818370491 : Unit := ()
def PySem.W.Fast.tw1819809324749933806 : Unit := ()
def PySem.W.Fast.tw13202989142240882826 : Unit := ()
def PySem.W.Fast.tw16367489805252760902 : Unit := ()
def PySem.W.Fast.tw4605086569786710400 : Unit := ()
def PySem.W.Fast.tw15579942402412383062 : Unit := ()
def PySem.W.Fast.tw16022248093737064379 : Unit := ()
def PySem.W.Fast.tw18384372201215026241 : Unit := ()
def PySem.W.Fast.tw7754392503925006042 : Unit := ()
def PySem.W.Fast.tw14683927206836288206 : Unit := ()
def PySem.W.Fast.tw12986565129034196749 : Unit := ()
def PySem.W.Fast.tw13899111428370882723 : Unit := ()
def PySem.W.Fast.tw12892987546388684031 : Unit := ()
def PySem.W.Fast.tw2404203205818329458 : Unit := ()
def PySem.W.Fast.tw6399285812584469518 : Unit := ()
def PySem.W.Fast.tw5816419842169240802 : Unit := ()
def PySem.W.Fast.tw5887683164654803372 : Unit := ()
def PySem.W.Fast.tw4778968742686457869 : Unit := ()
def PySem.W.Fast.tw212086516580895851 : Unit := ()
def PySem.W.Fast.tw14495143118474142634 : Unit := ()
def PySem.W.Fast.tw8963518340236554711 : Unit := ()
def PySem.W.Fast.tw6800876532381820662 : Unit := ()
def PySem.W.Fast.tw6344833602792364670 : Unit := ()
def PySem.W.Fast.tw2390794448330498177 : Unit := ()
def PySem.W.Fast.tw1443810478222474435 : Unit := ()
def PySem.W.Fast.tw17088665293826888822 : Unit := ()
def PySem.W.Fast.tw1655297942415253908 : Unit := ()
def PySem.W.Fast.tw9576850928360780122 : Unit := ()
def PySem.W.Fast.tw14112700637182607869 : Unit := ()
def PySem.W.Fast.tw6674553535593798101 : Unit := ()
def PySem.W.Fast.tw13282256445530181042 : Unit := ()
def PySem.W.Fast.tw11613725230856237992 : Unit := ()
def PySem.W.Fast.tw18443726640533369979 : Unit := ()
def PySem.W.Fast.tw15890958024373161461 : Unit := ()
def PySem.W.Fast.tw5864645630836482757 : Unit := ()
def PySem.W.Fast.tw4253094858770116333 : Unit := ()
def PySem.W.Fast.tw18407509524308190029 : Unit := ()
def PySem.W.Fast.tw17646350915095494373 : Unit := ()
def PySem.W.Fast.tw17452179969436853434 : Unit := ()
def PySem.W.Fast.tw2893286546533730576 : Unit := ()
def PySem.W.Fast.tw7317974388745942317 : Unit := ()
def PySem.W.Fast.tw15992292054873037840 : Unit := ()
def PySem.W.Fast.tw8802244424896575197 : Unit := ()
def PySem.W.Fast.tw7854597242603777702 : Unit := ()
def PySem.W.Fast.tw7822844989240573586 : Unit := ()
def PySem.W.Fast.tw16758012566799302559 : Unit := ()
def PySem.W.Fast.tw5663451598323405238 : Unit := ()
def PySem.W.Fast.tw10946475787119043316 : Unit := ()
def PySem.W.Fast.tw952087622140932479 : Unit := ()
def PySem.W.Fast.tw17101471404900853998 : Unit := ()
def PySem.W.Fast.tw4350626099294552799 : Unit := ()
def PySem.W.Fast.tw5706622029560694872 : Unit := ()
def PySem.W.Fast.tw15981375771547892493 : Unit := ()
def PySem.W.Fast.tw12612086399666010452 : Unit := ()
def PySem.W.Fast.tw4789670089654119701 : Unit := ()
def PySem.W.Fast.tw4973947780931857025 : Unit := ()
def PySem.W.Fast.tw7960831501215921713 : Unit := ()
def PySem.W.Fast.tw10871789442157473787 : Unit := ()
def PySem.W.Fast.tw16160175710429365918 : Unit := ()
def PySem.W.Fast.tw2451322723970656595 : Unit := ()
def PySem.W.Fast.tw9477000182586971871 : Unit := ()
def PySem.W.Fast.tw3971965656946051837 : Unit := ()
def PySem.W.Fast.tw1389928949717395135 : Unit := ()
def PySem.W.Fast.tw13318948551074469221 : Unit := ()
def PySem.W.Fast.tw8742763347570867396 : Unit := ()
def PySem.W.Fast.tw1243900671858550874 : Unit := ()
def PySem.W.Fast.tw11477196733621521641 : Unit := ()
set_option maxRecDepth 100000 in
set_option maxHeartbeats 0 in
theorem PySem.Challenge.cw_ownshelf_k25_whole_sets_by_sets_holds : PySem.Challenge.rw_ownshelf_k25_whole_sets_by_sets.Holds := by
 w_on; o_law; k_head; (case hw => w_witness2)
 k_fill
 refine F.law_walkT (l := PySem.Challenge.rw_ownshelf_k25_whole_sets_by_sets) (k := 50) (g := Pg.g_law) (x := "_law_script") Pg.tabs rfl rfl ⟨rfl,by decide,by decide⟩ (by decide) (by decide) rfl Pg.law_ok ?F
 case F =>
   intro w mg fa h KX G hmg
   have hb_abs : mg "abs" = none := by
     refine' PySem.W.mg_none_of KX G ?a_7; k_is
   have hb_bool : mg "bool" = none := by
     refine' PySem.W.mg_none_of KX G ?a_8; k_is
   have hb_int : mg "int" = none := by
     refine' PySem.W.mg_none_of KX G ?a_9; k_is
   have hb_isinstance : mg "isinstance" = none := by
     refine' PySem.W.mg_none_of KX G ?a_10; k_is
   have hb_len : mg "len" = none := by
     refine' PySem.W.mg_none_of KX G ?a_11; k_is
   have hb_max : mg "max" = none := by
     refine' PySem.W.mg_none_of KX G ?a_12; k_is
   have hb_range : mg "range" = none := by
     refine' PySem.W.mg_none_of KX G ?a_13; k_is
   have hb_tuple : mg "tuple" = none := by
     refine' PySem.W.mg_none_of KX G ?a_14; k_is
   have hi_ABOUT : ∃ t,mg "ABOUT" = some (.int 1 t) := by
     refine' F.has_int KX G ?a_15; (case a_15 => k_is)
   have hi_AHEAD : ∃ t,mg "AHEAD" = some (.int 0 t) := by
     refine' F.has_int KX G ?a_16; (case a_16 => k_is)
   have hi_BACK : ∃ t,mg "BACK" = some (.int 8 t) := by
     refine' F.has_int KX G ?a_17; (case a_17 => k_is)
   have hi_BEHIND : ∃ t,mg "BEHIND" = some (.int 2 t) := by
     refine' F.has_int KX G ?a_18; (case a_18 => k_is)
   have hi_HEIGHT : ∃ t,mg "HEIGHT" = some (.int 6 t) := by
     refine' F.has_int KX G ?a_19; (case a_19 => k_is)
   have hi_LEFT : ∃ t,mg "LEFT" = some (.int 2 t) := by
     refine' F.has_int KX G ?a_20; (case a_20 => k_is)
   have hi_MIDDLE : ∃ t,mg "MIDDLE" = some (.int 1 t) := by
     refine' F.has_int KX G ?a_21; (case a_21 => k_is)
   have hi_MOST_THINGS : ∃ t,mg "MOST_THINGS" = some (.int 2000 t) := by
     refine' F.has_int KX G ?a_22; (case a_22 => k_is)
   have hi_NUMBER : ∃ t,mg "NUMBER" = some (.int 0 t) := by
     refine' F.has_int KX G ?a_23; (case a_23 => k_is)
   have hi_RIGHT : ∃ t,mg "RIGHT" = some (.int 4 t) := by
     refine' F.has_int KX G ?a_24; (case a_24 => k_is)
   have hi_SIZE : ∃ t,mg "SIZE" = some (.int 5 t) := by
     refine' F.has_int KX G ?a_25; (case a_25 => k_is)
   have hi_THING : ∃ t,mg "THING" = some (.int 3 t) := by
     refine' F.has_int KX G ?a_26; (case a_26 => k_is)
   have hi_TOTAL : ∃ t,mg "TOTAL" = some (.int 7 t) := by
     refine' F.has_int KX G ?a_27; (case a_27 => k_is)
   have hi_TURNED : ∃ t,mg "TURNED" = some (.int 3 t) := by
     refine' F.has_int KX G ?a_28; (case a_28 => k_is)
   have hi_VALUES_OF_A_NODE : ∃ t,mg "VALUES_OF_A_NODE" = some (.int 9 t) := by
     refine' F.has_int KX G ?a_29; (case a_29 => k_is)
   have hw_Wood_adding : F.Fld (L2.KOf KX) mg "Wood" "adding" := by
     refine' F.has_fld KX G ?aC_30 (F.has_cls KX G ?aC_30 ?pg_30 ?hd_30 ?po_30 ?sa_30) ?n_30; (case aC_30 => k_is); (case pg_30 => k_is); (case hd_30 => k_is); (case po_30 => k_is); (case sa_30 => k_is); (case n_30 => k_is)
   have hw_Wood_nodes_made : F.Fld (L2.KOf KX) mg "Wood" "nodes_made" := by
     refine' F.has_fld KX G ?aC_31 (F.has_cls KX G ?aC_31 ?pg_31 ?hd_31 ?po_31 ?sa_31) ?n_31; (case aC_31 => k_is); (case pg_31 => k_is); (case hd_31 => k_is); (case po_31 => k_is); (case sa_31 => k_is); (case n_31 => k_is)
   have hf_Wood___init__ : F.HasMk (L2.KOf KX) mg "Wood" "Wood.__init__" Pg.s_Wood___init__ 1 := by
     refine' F.has_mk1 KX G ?aC_32 ?mk_32 ?kc_32 ?a_32 ?i_32 ?l_32 ?c_32 ?k_32 ?t_32; (case aC_32 => k_is); (case mk_32 => k_is); (case kc_32 => k_is); (case a_32 => k_is); (case i_32 => k_is); (case l_32 => k_is); (case c_32 => k_is); (case k_32 => k_is); (case t_32 => k_is)
   have hf__law_cell : F.HasDef (L2.KOf KX) mg "_law_cell" Pg.s__law_cell 0 := by
     refine' F.has_def KX G ?a_33 ?l_33 ?c_33 ?k_33; (case a_33 => k_is); (case l_33 => k_is); (case c_33 => k_is); (case k_33 => k_is)
   have hf__law_key : F.HasDef (L2.KOf KX) mg "_law_key" Pg.s__law_key 0 := by
     refine' F.has_def KX G ?a_34 ?l_34 ?c_34 ?k_34; (case a_34 => k_is); (case l_34 => k_is); (case c_34 => k_is); (case k_34 => k_is)
   have hf_seen : F.HasDef (L2.KOf KX) mg "seen" Pg.s_seen 0 := by
     refine' F.has_def KX G ?a_35 ?l_35 ?c_35 ?k_35; (case a_35 => k_is); (case l_35 => k_is); (case c_35 => k_is); (case k_35 => k_is)
   have hf_gather : F.HasDef (L2.KOf KX) mg "gather" Pg.s_gather 0 := by
     refine' F.has_def KX G ?a_36 ?l_36 ?c_36 ?k_36; (case a_36 => k_is); (case l_36 => k_is); (case c_36 => k_is); (case k_36 => k_is)
   have hf_things_of : F.HasDef (L2.KOf KX) mg "things_of" Pg.s_things_of 0 := by
     refine' F.has_def KX G ?a_37 ?l_37 ?c_37 ?k_37; (case a_37 => k_is); (case l_37 => k_is); (case c_37 => k_is); (case k_37 => k_is)
   have hf__law_keys : F.HasDef (L2.KOf KX) mg "_law_keys" Pg.s__law_keys 0 := by
     refine' F.has_def KX G ?a_38 ?l_38 ?c_38 ?k_38; (case a_38 => k_is); (case l_38 => k_is); (case c_38 => k_is); (case k_38 => k_is)
   have hf_is_whole : F.HasDef (L2.KOf KX) mg "is_whole" Pg.s_is_whole 0 := by
     refine' F.has_def KX G ?a_39 ?l_39 ?c_39 ?k_39; (case a_39 => k_is); (case l_39 => k_is); (case c_39 => k_is); (case k_39 => k_is)
   have hf_has_form : F.HasDef (L2.KOf KX) mg "has_form" Pg.s_has_form 0 := by
     refine' F.has_def KX G ?a_40 ?l_40 ?c_40 ?k_40; (case a_40 => k_is); (case l_40 => k_is); (case c_40 => k_is); (case k_40 => k_is)
   have hf_height : F.HasDef (L2.KOf KX) mg "height" Pg.s_height 0 := by
     refine' F.has_def KX G ?a_41 ?l_41 ?c_41 ?k_41; (case a_41 => k_is); (case l_41 => k_is); (case c_41 => k_is); (case k_41 => k_is)
   have hf_height_above : F.HasDef (L2.KOf KX) mg "height_above" Pg.s_height_above 0 := by
     refine' F.has_def KX G ?a_42 ?l_42 ?c_42 ?k_42; (case a_42 => k_is); (case l_42 => k_is); (case c_42 => k_is); (case k_42 => k_is)
   have hf_in_balance : F.HasDef (L2.KOf KX) mg "in_balance" Pg.s_in_balance 0 := by
     refine' F.has_def KX G ?a_43 ?l_43 ?c_43 ?k_43; (case a_43 => k_is); (case l_43 => k_is); (case c_43 => k_is); (case k_43 => k_is)
   have hf_size : F.HasDef (L2.KOf KX) mg "size" Pg.s_size 0 := by
     refine' F.has_def KX G ?a_44 ?l_44 ?c_44 ?k_44; (case a_44 => k_is); (case l_44 => k_is); (case c_44 => k_is); (case k_44 => k_is)
   have hf_size_above : F.HasDef (L2.KOf KX) mg "size_above" Pg.s_size_above 0 := by
     refine' F.has_def KX G ?a_45 ?l_45 ?c_45 ?k_45; (case a_45 => k_is); (case l_45 => k_is); (case c_45 => k_is); (case k_45 => k_is)
   have hf_has_right_measures : F.HasDef (L2.KOf KX) mg "has_right_measures" Pg.s_has_right_measures 0 := by
     refine' F.has_def KX G ?a_46 ?l_46 ?c_46 ?k_46; (case a_46 => k_is); (case l_46 => k_is); (case c_46 => k_is); (case k_46 => k_is)
   have hf_back : F.HasDef (L2.KOf KX) mg "back" Pg.s_back 0 := by
     refine' F.has_def KX G ?a_47 ?l_47 ?c_47 ?k_47; (case a_47 => k_is); (case l_47 => k_is); (case c_47 => k_is); (case k_47 => k_is)
   have hf_backward_sum : F.HasDef (L2.KOf KX) mg "backward_sum" Pg.s_backward_sum 0 := by
     refine' F.has_def KX G ?a_48 ?l_48 ?c_48 ?k_48; (case a_48 => k_is); (case l_48 => k_is); (case c_48 => k_is); (case k_48 => k_is)
   have hf_total : F.HasDef (L2.KOf KX) mg "total" Pg.s_total 0 := by
     refine' F.has_def KX G ?a_49 ?l_49 ?c_49 ?k_49; (case a_49 => k_is); (case l_49 => k_is); (case c_49 => k_is); (case k_49 => k_is)
   have hf_onward_sum : F.HasDef (L2.KOf KX) mg "onward_sum" Pg.s_onward_sum 0 := by
     refine' F.has_def KX G ?a_50 ?l_50 ?c_50 ?k_50; (case a_50 => k_is); (case l_50 => k_is); (case c_50 => k_is); (case k_50 => k_is)
   have hf_sums_above : F.HasDef (L2.KOf KX) mg "sums_above" Pg.s_sums_above 0 := by
     refine' F.has_def KX G ?a_51 ?l_51 ?c_51 ?k_51; (case a_51 => k_is); (case l_51 => k_is); (case c_51 => k_is); (case k_51 => k_is)
   have hf_has_right_sums : F.HasDef (L2.KOf KX) mg "has_right_sums" Pg.s_has_right_sums 0 := by
     refine' F.has_def KX G ?a_52 ?l_52 ?c_52 ?k_52; (case a_52 => k_is); (case l_52 => k_is); (case c_52 => k_is); (case k_52 => k_is)
   have hf_is_right : F.HasDef (L2.KOf KX) mg "is_right" Pg.s_is_right 1 := by
     refine' F.has_def1 KX G ?a_53 ?l_53 ?c_53 ?k_53 ?t_53; (case a_53 => k_is); (case l_53 => k_is); (case c_53 => k_is); (case k_53 => k_is); (case t_53 => k_is)
   have hf__law_right : F.HasDef (L2.KOf KX) mg "_law_right" Pg.s__law_right 0 := by
     refine' F.has_def KX G ?a_54 ?l_54 ?c_54 ?k_54; (case a_54 => k_is); (case l_54 => k_is); (case c_54 => k_is); (case k_54 => k_is)
   have hf__law_thing : F.HasDef (L2.KOf KX) mg "_law_thing" Pg.s__law_thing 0 := by
     refine' F.has_def KX G ?a_55 ?l_55 ?c_55 ?k_55; (case a_55 => k_is); (case l_55 => k_is); (case c_55 => k_is); (case k_55 => k_is)
   have hf_check_place : F.HasDef (L2.KOf KX) mg "check_place" Pg.s_check_place 0 := by
     refine' F.has_def KX G ?a_56 ?l_56 ?c_56 ?k_56; (case a_56 => k_is); (case l_56 => k_is); (case c_56 => k_is); (case k_56 => k_is)
   have hf_thing_at : F.HasDef (L2.KOf KX) mg "thing_at" Pg.s_thing_at 0 := by
     refine' F.has_def KX G ?a_57 ?l_57 ?c_57 ?k_57; (case a_57 => k_is); (case l_57 => k_is); (case c_57 => k_is); (case k_57 => k_is)
   have hf_at : F.HasDef (L2.KOf KX) mg "at" Pg.s_at 0 := by
     refine' F.has_def KX G ?a_58 ?l_58 ?c_58 ?k_58; (case a_58 => k_is); (case l_58 => k_is); (case c_58 => k_is); (case k_58 => k_is)
   have hf_is_alike_at : F.HasDef (L2.KOf KX) mg "is_alike_at" Pg.s_is_alike_at 0 := by
     refine' F.has_def KX G ?a_59 ?l_59 ?c_59 ?k_59; (case a_59 => k_is); (case l_59 => k_is); (case c_59 => k_is); (case k_59 => k_is)
   have hf_count_before : F.HasDef (L2.KOf KX) mg "count_before" Pg.s_count_before 0 := by
     refine' F.has_def KX G ?a_60 ?l_60 ?c_60 ?k_60; (case a_60 => k_is); (case l_60 => k_is); (case c_60 => k_is); (case k_60 => k_is)
   have hf_place_of : F.HasDef (L2.KOf KX) mg "place_of" Pg.s_place_of 0 := by
     refine' F.has_def KX G ?a_61 ?l_61 ?c_61 ?k_61; (case a_61 => k_is); (case l_61 => k_is); (case c_61 => k_is); (case k_61 => k_is)
   have hf_has : F.HasDef (L2.KOf KX) mg "has" Pg.s_has 0 := by
     refine' F.has_def KX G ?a_62 ?l_62 ?c_62 ?k_62; (case a_62 => k_is); (case l_62 => k_is); (case c_62 => k_is); (case k_62 => k_is)
   have hf_Wood_numbered : F.HasMth (L2.KOf KX) mg "Wood" "numbered" "Wood.numbered" Pg.s_Wood_numbered := by
     refine' F.has_mth KX G ?aC_63 (F.has_cls KX G ?aC_63 ?pg_63 ?hd_63 ?po_63 ?sa_63) ?a_63 ?i_63 ?l_63 ?c_63 ?k_63; (case aC_63 => k_is); (case pg_63 => k_is); (case hd_63 => k_is); (case po_63 => k_is); (case sa_63 => k_is); (case a_63 => k_is); (case i_63 => k_is); (case l_63 => k_is); (case c_63 => k_is); (case k_63 => k_is)
   have hf_check_room : F.HasDef (L2.KOf KX) mg "check_room" Pg.s_check_room 0 := by
     refine' F.has_def KX G ?a_64 ?l_64 ?c_64 ?k_64; (case a_64 => k_is); (case l_64 => k_is); (case c_64 => k_is); (case k_64 => k_is)
   have hf_Wood_node : F.HasMth (L2.KOf KX) mg "Wood" "node" "Wood.node" Pg.s_Wood_node := by
     refine' F.has_mth KX G ?aC_65 (F.has_cls KX G ?aC_65 ?pg_65 ?hd_65 ?po_65 ?sa_65) ?a_65 ?i_65 ?l_65 ?c_65 ?k_65; (case aC_65 => k_is); (case pg_65 => k_is); (case hd_65 => k_is); (case po_65 => k_is); (case sa_65 => k_is); (case a_65 => k_is); (case i_65 => k_is); (case l_65 => k_is); (case c_65 => k_is); (case k_65 => k_is)
   have hf_built : F.HasDef (L2.KOf KX) mg "built" Pg.s_built 0 := by
     refine' F.has_def KX G ?a_66 ?l_66 ?c_66 ?k_66; (case a_66 => k_is); (case l_66 => k_is); (case c_66 => k_is); (case k_66 => k_is)
   have hf_make_of : F.HasDef (L2.KOf KX) mg "make_of" Pg.s_make_of 0 := by
     refine' F.has_def KX G ?a_67 ?l_67 ?c_67 ?k_67; (case a_67 => k_is); (case l_67 => k_is); (case c_67 => k_is); (case k_67 => k_is)
   have hf_common : F.HasDef (L2.KOf KX) mg "common" Pg.s_common 0 := by
     refine' F.has_def KX G ?a_68 ?l_68 ?c_68 ?k_68; (case a_68 => k_is); (case l_68 => k_is); (case c_68 => k_is); (case k_68 => k_is)
   have hf_merged : F.HasDef (L2.KOf KX) mg "merged" Pg.s_merged 0 := by
     refine' F.has_def KX G ?a_69 ?l_69 ?c_69 ?k_69; (case a_69 => k_is); (case l_69 => k_is); (case c_69 => k_is); (case k_69 => k_is)
   have hf_either : F.HasDef (L2.KOf KX) mg "either" Pg.s_either 0 := by
     refine' F.has_def KX G ?a_70 ?l_70 ?c_70 ?k_70; (case a_70 => k_is); (case l_70 => k_is); (case c_70 => k_is); (case k_70 => k_is)
   have hf_less : F.HasDef (L2.KOf KX) mg "less" Pg.s_less 0 := by
     refine' F.has_def KX G ?a_71 ?l_71 ?c_71 ?k_71; (case a_71 => k_is); (case l_71 => k_is); (case c_71 => k_is); (case k_71 => k_is)
   have hf__law_two : F.HasDef (L2.KOf KX) mg "_law_two" Pg.s__law_two 0 := by
     refine' F.has_def KX G ?a_72 ?l_72 ?c_72 ?k_72; (case a_72 => k_is); (case l_72 => k_is); (case c_72 => k_is); (case k_72 => k_is)
   have hf_Wood_turned : F.HasMth (L2.KOf KX) mg "Wood" "turned" "Wood.turned" Pg.s_Wood_turned := by
     refine' F.has_mth KX G ?aC_73 (F.has_cls KX G ?aC_73 ?pg_73 ?hd_73 ?po_73 ?sa_73) ?a_73 ?i_73 ?l_73 ?c_73 ?k_73; (case aC_73 => k_is); (case pg_73 => k_is); (case hd_73 => k_is); (case po_73 => k_is); (case sa_73 => k_is); (case a_73 => k_is); (case i_73 => k_is); (case l_73 => k_is); (case c_73 => k_is); (case k_73 => k_is)
   have hf_parts : F.HasDef (L2.KOf KX) mg "parts" Pg.s_parts 0 := by
     refine' F.has_def KX G ?a_74 ?l_74 ?c_74 ?k_74; (case a_74 => k_is); (case l_74 => k_is); (case c_74 => k_is); (case k_74 => k_is)
   have hf_lifted_left : F.HasDef (L2.KOf KX) mg "lifted_left" Pg.s_lifted_left 0 := by
     refine' F.has_def KX G ?a_75 ?l_75 ?c_75 ?k_75; (case a_75 => k_is); (case l_75 => k_is); (case c_75 => k_is); (case k_75 => k_is)
   have hf_lifted_right : F.HasDef (L2.KOf KX) mg "lifted_right" Pg.s_lifted_right 0 := by
     refine' F.has_def KX G ?a_76 ?l_76 ?c_76 ?k_76; (case a_76 => k_is); (case l_76 => k_is); (case c_76 => k_is); (case k_76 => k_is)
   have hf_balanced : F.HasDef (L2.KOf KX) mg "balanced" Pg.s_balanced 0 := by
     refine' F.has_def KX G ?a_77 ?l_77 ?c_77 ?k_77; (case a_77 => k_is); (case l_77 => k_is); (case c_77 => k_is); (case k_77 => k_is)
   have hf_put_in : F.HasDef (L2.KOf KX) mg "put_in" Pg.s_put_in 0 := by
     refine' F.has_def KX G ?a_78 ?l_78 ?c_78 ?k_78; (case a_78 => k_is); (case l_78 => k_is); (case c_78 => k_is); (case k_78 => k_is)
   have hf_put : F.HasDef (L2.KOf KX) mg "put" Pg.s_put 0 := by
     refine' F.has_def KX G ?a_79 ?l_79 ?c_79 ?k_79; (case a_79 => k_is); (case l_79 => k_is); (case c_79 => k_is); (case k_79 => k_is)
   have hf_added : F.HasDef (L2.KOf KX) mg "added" Pg.s_added 0 := by
     refine' F.has_def KX G ?a_80 ?l_80 ?c_80 ?k_80; (case a_80 => k_is); (case l_80 => k_is); (case c_80 => k_is); (case k_80 => k_is)
   have hf_law : F.HasDef (L2.KOf KX) mg "law" Pg.s_law 0 := by
     refine' F.has_def KX G ?a_81 ?l_81 ?c_81 ?k_81; (case a_81 => k_is); (case l_81 => k_is); (case c_81 => k_is); (case k_81 => k_is)
   obtain ⟨fa',fd,hm,hb,hF⟩ := Pg.law_all (P := (PySem.Challenge.rw_ownshelf_k25_whole_sets_by_sets).prog) (w := w) (fun base hB => ⟨hb_abs,hb_bool,hb_int,hb_isinstance,hb_len,hb_max,hb_range,hb_tuple,hi_ABOUT,hi_AHEAD,hi_BACK,hi_BEHIND,hi_HEIGHT,hi_LEFT,hi_MIDDLE,hi_MOST_THINGS,hi_NUMBER,hi_RIGHT,hi_SIZE,hi_THING,hi_TOTAL,hi_TURNED,hi_VALUES_OF_A_NODE,hw_Wood_adding,hw_Wood_nodes_made,hB,hf_Wood___init__,hf__law_cell,hf__law_key,hf_seen,hf_gather,hf_things_of,hf__law_keys,hf_is_whole,hf_has_form,hf_height,hf_height_above,hf_in_balance,hf_size,hf_size_above,hf_has_right_measures,hf_back,hf_backward_sum,hf_total,hf_onward_sum,hf_sums_above,hf_has_right_sums,hf_is_right,hf__law_right,hf__law_thing,hf_check_place,hf_thing_at,hf_at,hf_is_alike_at,hf_count_before,hf_place_of,hf_has,hf_Wood_numbered,hf_check_room,hf_Wood_node,hf_built,hf_make_of,hf_common,hf_merged,hf_either,hf_less,hf__law_two,hf_Wood_turned,hf_parts,hf_lifted_left,hf_lifted_right,hf_balanced,hf_put_in,hf_put,hf_added,hf_law⟩) hf_law
   have e := hmg.symm.trans hm
   cases e
   refine ⟨fun i p Q e1 e2 => ?_,fd,hb,fun base _ _ hB => hF base hB⟩
   match i,e1,e2 with
   | 0,e1,e2 =>
     cases e1; cases e2
     refine' F.has_tab (st := Pg.s_law) KX G ?ta0_83 ?tl0_83 ?tz0_83; (case ta0_83 => k_is); (case tl0_83 => k_is); (case tz0_83 => kernel_rfl)
   | i + 1,e1,_ => cases e1

